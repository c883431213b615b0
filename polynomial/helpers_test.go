package polynomial_test

import (
	"maps"
	"math/big"
	"math/rand/v2"
	"slices"
	"strconv"
	"strings"
	"testing"

	"eliminant/api"
	"eliminant/integer"
	"eliminant/polynomial"
)

// The tests compare with polynomials that are maps from monomials to the rational numbers of math/big; numbers go there
// and back by the texts of their integers (layer 1).

type model map[api.Mono]*big.Rat

// mono returns the monomial with these first exponents.
func mono(l ...int) api.Mono {
	var m api.Mono
	copy(m[:], l)
	return m
}

// single returns the monomial with the exponent e of the variable i.
func single(i, e int) api.Mono {
	var m api.Mono
	m[i] = e
	return m
}

// each returns the monomial whose exponents are all e.
func each(e int) api.Mono {
	var m api.Mono
	for i := range m {
		m[i] = e
	}
	return m
}

// plus adds the exponents, also beyond the range.
func plus(a, b api.Mono) api.Mono {
	for i := range a {
		a[i] += b[i]
	}
	return a
}

func bigOf(a api.Rat) *big.Rat {
	n, _ := new(big.Int).SetString(integer.Text(a.Num), 10)
	d, _ := new(big.Int).SetString(integer.Text(a.Den), 10)
	return new(big.Rat).SetFrac(n, d)
}

// intOf gives the words their places itself: the texts of layer 1 have a limit.
func intOf(b *big.Int) api.Int {
	out := api.Int{Neg: b.Sign() < 0}
	mask := big.NewInt(1<<32 - 1)
	for rest := new(big.Int).Abs(b); rest.Sign() > 0; rest.Rsh(rest, 32) {
		out.Mag = append(out.Mag, uint32(new(big.Int).And(rest, mask).Uint64()))
	}
	return out
}

func ratOf(b *big.Rat) api.Rat { return api.Rat{Num: intOf(b.Num()), Den: intOf(b.Denom())} }

// number returns n/d in lowest terms.
func number(n, d int64) api.Rat { return ratOf(big.NewRat(n, d)) }

// modelOf returns the sum of the terms of p.
func modelOf(p api.Poly) model {
	out := model{}
	for _, t := range p {
		out.add(t.M, bigOf(t.C))
	}
	return out
}

// add adds a term.
func (p model) add(m api.Mono, c *big.Rat) {
	sum := new(big.Rat).Set(c)
	if old := p[m]; old != nil {
		sum.Add(sum, old)
	}
	p[m] = sum
	if sum.Sign() == 0 {
		delete(p, m)
	}
}

// times returns the product, also if its exponents are too great.
func (p model) times(q model) model {
	out := model{}
	for m, c := range p {
		for n, d := range q {
			out.add(plus(m, n), new(big.Rat).Mul(c, d))
		}
	}
	return out
}

// greatest returns the greatest exponent.
func (p model) greatest() int {
	out := 0
	for m := range p {
		out = max(out, slices.Max(m[:]))
	}
	return out
}

// poly returns the valid polynomial.
func (p model) poly() api.Poly {
	var out api.Poly
	for _, m := range slices.SortedFunc(maps.Keys(p), func(a, b api.Mono) int { return slices.Compare(b[:], a[:]) }) {
		out = append(out, api.Term{C: ratOf(p[m]), M: m})
	}
	return out
}

// read returns the polynomial with a text like "3/2 x0^2 x1 - x1 + 1".
func read(t *testing.T, s string) api.Poly {
	t.Helper()
	out, m, c, begun := model{}, mono(), big.NewRat(1, 1), false
	for _, word := range append(strings.Fields(s), "+") {
		if word == "+" || word == "-" {
			if begun {
				out.add(m, c)
			}
			m, c, begun = mono(), big.NewRat(1, 1), false
			if word == "-" {
				c.Neg(c)
			}
			continue
		}
		begun = true
		if d, ok := new(big.Rat).SetString(word); ok {
			c.Mul(c, d)
			continue
		}
		name, exponent, found := strings.Cut(strings.TrimPrefix(word, "x"), "^")
		if !found {
			exponent = "1"
		}
		i, wrong := strconv.Atoi(name)
		e, wrong2 := strconv.Atoi(exponent)
		if wrong != nil || wrong2 != nil {
			t.Fatalf("the test has a wrong text: %q", s)
		}
		m[i] += e
	}
	return out.poly()
}

// text writes a polynomial, whether it is valid or not, for messages.
func text(p api.Poly) string {
	var out []string
	for _, t := range p {
		word := bigOf(t.C).RatString()
		for i, e := range t.M {
			if e != 0 {
				word += " x" + strconv.Itoa(i) + "^" + strconv.Itoa(e)
			}
		}
		out = append(out, word)
	}
	return "(" + strings.Join(out, " + ") + ")"
}

func texts(l ...api.Poly) string {
	var out []string
	for _, p := range l {
		out = append(out, text(p))
	}
	return strings.Join(out, " and ")
}

func sameInt(a, b api.Int) bool { return a.Neg == b.Neg && slices.Equal(a.Mag, b.Mag) }

func sameRat(a, b api.Rat) bool { return sameInt(a.Num, b.Num) && sameInt(a.Den, b.Den) }

func sameTerm(a, b api.Term) bool { return a.M == b.M && sameRat(a.C, b.C) }

// same compares all the fields.
func same(p, q api.Poly) bool { return slices.EqualFunc(p, q, sameTerm) }

// expect checks that a polynomial has the fields of the wanted one.
func expect(t *testing.T, what string, got, want api.Poly, of ...api.Poly) {
	t.Helper()
	if !same(got, want) {
		t.Errorf("%s of %s: %s, want %s", what, texts(of...), text(got), text(want))
	}
}

// expectError checks an error, and that there is no polynomial with it.
func expectError(t *testing.T, what string, got api.Poly, e, want api.Errno, of ...api.Poly) {
	t.Helper()
	if e != want || e != api.OK && len(got) != 0 {
		t.Errorf("%s of %s: %s, %v, want error %v", what, texts(of...), text(got), e, want)
	}
}

// must returns the polynomial of a call that has no error.
func must(t *testing.T) func(p api.Poly, e api.Errno) api.Poly {
	return func(p api.Poly, e api.Errno) api.Poly {
		t.Helper()
		if e != api.OK {
			t.Errorf("an error where there is none: %v", e)
		}
		return p
	}
}

func source() *rand.Rand { return rand.New(rand.NewPCG(11, 12)) }

// variable returns the polynomial of the variable i.
func variable(i int) api.Poly { return api.Poly{{C: number(1, 1), M: single(i, 1)}} }

// variables returns all of them.
func variables() [api.MaxVars]api.Poly {
	var out [api.MaxVars]api.Poly
	for i := range out {
		out[i] = variable(i)
	}
	return out
}

// random returns a polynomial of up to n terms in up to three variables, with exponents up to high, and short numbers:
// so monomials meet, and coefficients cancel out, in many sums and products.
func random(r *rand.Rand, n, high int) api.Poly {
	out := model{}
	used := r.Perm(api.MaxVars)[:1+r.IntN(3)]
	if r.IntN(2) == 0 {
		used = []int{0, 1, 2}[:1+r.IntN(3)]
	}
	for range r.IntN(n + 1) {
		var m api.Mono
		for _, i := range used {
			m[i] = r.IntN(high + 1)
		}
		out.add(m, big.NewRat(int64(r.IntN(7)-3), int64(1+r.IntN(3))))
	}
	return out.poly()
}

// samples returns polynomials at the edges, and n random ones, some of them with long numbers or great exponents.
func samples(t *testing.T, r *rand.Rand, n int) []api.Poly {
	var out []api.Poly
	for _, s := range []string{
		"0", "1", "-1", "1/2", "x0", "x7", "- x7", "x0 + 1", "x0 - 1", "x0 - x1", "x0 + x1", "x0^2 - x1^2", "x0 x1", "x0 + x1^2", "1/3 x0^3 + x4 x5 x6 x7 - 2/5",
		"x0 + x1 + x2 + x3 + x4 + x5 + x6 + x7 + 1", "18446744073709551616 x3^2 + 1/18446744073709551615 x3", "x0^9 x1 + x0^9 - x0 + x1^30", "x6^3 + 2 x6^2 x7 - x7^3 + 4",
	} {
		out = append(out, read(t, s))
	}
	for i := range n {
		p := random(r, 2+i%6, 1+i%4)
		if i%5 == 0 {
			p = modelOf(p).times(modelOf(read(t, "98765432109876543210/123456789012345678901 x2^300"))).poly()
		}
		out = append(out, p)
	}
	return out
}

// orders returns named orders, and some by other weights.
func orders() []api.Order {
	out := []api.Order{nil, {each(1)}, {mono(1, 3)}, {each(0)}, {each(1), mono(0, 0, -1000)}, {single(7, 1)}, {mono(3, 1, 4, 1, 5, 9, 2, 6), mono(2, 7, 1, 8, 2, 8, 1, 8)}, {mono(1, 1), mono(-1, 1)}, {each(1000), each(-1000)}}
	reverse := api.Order{each(1)}
	for k := api.MaxVars - 1; k > 0; k-- {
		reverse = append(reverse, single(k, -1))
	}
	out = append(out, reverse)
	for mask := range 8 {
		out = append(out, append(api.Order{mono(mask&1, mask>>1&1, mask>>2&1)}, reverse...))
	}
	return out
}

// mul returns the product, which exists.
func mul(t *testing.T, l ...api.Poly) api.Poly {
	t.Helper()
	out := l[0]
	for _, p := range l[1:] {
		out = must(t)(polynomial.Mul(out, p))
	}
	return out
}
