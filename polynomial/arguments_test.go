package polynomial_test

import (
	"go/parser"
	"go/token"
	"math"
	"path/filepath"
	"slices"
	"strings"
	"testing"

	"eliminant/api"
	"eliminant/order"
	"eliminant/polynomial"
)

// calls calls every function, and returns the polynomials and numbers that they return; a number is the coefficient of a term.
func calls(p, q api.Poly, x point, o api.Order) map[string]api.Poly {
	out := map[string]api.Poly{"Add": polynomial.Add(p, q), "Sub": polynomial.Sub(p, q), "Monic": polynomial.Monic(p, o), "Constant": polynomial.Constant(x[0]), "Eval": {{C: polynomial.Eval(p, x)}}}
	out["Var"], _ = polynomial.Var(3)
	out["Times"], _ = polynomial.Times(x[0], mono(1, 2), p)
	out["Times 1"], _ = polynomial.Times(number(1, 1), mono(), p)
	out["Mul"], _ = polynomial.Mul(p, q)
	out["Mul by 1"], _ = polynomial.Mul(p, api.Poly{{C: number(1, 1)}})
	for n := range 4 {
		out["Pow "+string(rune('0'+n))], _ = polynomial.Pow(p, n)
	}
	lead, _ := polynomial.Lead(p, o)
	out["Lead"] = api.Poly{lead}
	out["Partial"], _ = polynomial.Partial(p, 1)
	out["Subst"], _ = polynomial.Subst(p, replacement{p[:min(2, len(p))], q[:min(2, len(q))], q})
	out["Subst of variables"], _ = polynomial.Subst(p, variables())
	out["Permute"], _ = polynomial.Permute(p, [api.MaxVars]int{1, 2, 0, 3, 4, 5, 6, 7})
	polynomial.Valid(p)
	polynomial.Same(p, q)
	polynomial.Cmp(p, q)
	polynomial.Degree(p)
	polynomial.Uses(p)
	return out
}

// overwrite changes all the memory of an integer, also what lies behind its length.
func overwrite(a api.Int) {
	all := a.Mag[:cap(a.Mag)]
	for i := range all {
		all[i] ^= 0xdeadbeef
	}
}

// long returns a copy of a polynomial that has more memory behind its end, and all of that memory.
func long(p api.Poly) (api.Poly, api.Poly) {
	all := append(modelOf(p).poly(), make(api.Poly, 5)...)
	return all[:len(p)], all
}

// P1 and P2 of the document: nothing is modified, also not behind the end of a polynomial, results share no memory with
// the arguments or with each other, and they repeat.
func TestArguments(t *testing.T) {
	r := source()
	polys := samples(t, r, 15)
	for _, given := range polys {
		for _, other := range polys {
			p, allP := long(given)
			q, allQ := long(other)
			x, o := randomPoint(r), slices.Clone(orders()[r.IntN(len(orders()))])
			oldX, oldO := coordinates(x), slices.Clone(o)
			kept := modelOf(oldX).poly() // without those that are 0
			wantP, wantQ := append(modelOf(given).poly(), make(api.Poly, 5)...), append(modelOf(other).poly(), make(api.Poly, 5)...)
			unchanged := func() bool {
				return same(allP, wantP) && same(allQ, wantQ) && slices.Equal(o, oldO) && same(modelOf(coordinates(x)).poly(), kept)
			}
			one, two := calls(p, q, x, o), calls(p, q, x, o)
			if !unchanged() {
				t.Fatalf("an argument was modified: %s", texts(given, other))
			}
			for name, got := range one {
				for k, term := range got {
					if !sameTerm(term, two[name][k]) || len(got) != len(two[name]) {
						t.Fatalf("%s of %s: two results, or two parts that share memory", name, texts(given, other))
					}
					overwrite(term.C.Num)
					if !sameInt(term.C.Den, two[name][k].C.Den) {
						t.Fatalf("%s of %s: numerator and denominator share memory", name, texts(given, other))
					}
					overwrite(term.C.Den)
				}
				all := got[:cap(got)]
				for k := range all {
					all[k] = api.Term{M: each(-5)}
				}
				if !unchanged() {
					t.Fatalf("%s of %s shares memory with an argument", name, texts(given, other))
				}
			}
		}
	}
}

// invalidPolynomials returns values of the type of a polynomial that are none.
func invalidPolynomials() []api.Poly {
	one := number(1, 1)
	exponents := []int{0, 1, -1, 64, 65535, 65536, 1 << 32, math.MaxInt, math.MinInt, math.MinInt + 1}
	out := []api.Poly{{{C: one}, {C: one, M: mono(1)}}, {{C: one, M: mono(1)}, {C: one, M: mono(2)}, {C: one, M: mono(1)}}, {{C: one}, {C: one}}, {{C: number(0, 1)}}, {{C: number(0, 1), M: mono(3)}, {}}}
	for _, c := range invalidNumbers() {
		out = append(out, api.Poly{{C: c}}, api.Poly{{C: c, M: mono(2, 1)}, {C: one, M: mono(1)}, {C: c}})
	}
	for i, e := range exponents {
		f := exponents[(i+3)%len(exponents)]
		out = append(out, api.Poly{{C: one, M: each(e)}}, api.Poly{{C: one, M: mono(e, f)}, {C: one, M: mono(f, e)}, {C: one, M: mono(1)}}, api.Poly{{C: number(2, 1), M: single(7, e)}, {C: one, M: single(3, f)}, {C: one}})
	}
	return out
}

// For what is not valid most results are unspecified, but every call ends, without a panic.
func TestInvalidArguments(t *testing.T) {
	polys := append(invalidPolynomials(), nil, read(t, "x0 + 1"), read(t, "2 x0^2 x7 - 1/2"))
	rows := api.Order{each(-1), each(1001), each(math.MaxInt), each(math.MinInt)}
	for _, p := range polys {
		for _, q := range polys {
			calls(p, q, point{number(2, 1), number(-1, 1), number(1, 1)}, rows)
		}
		for _, c := range invalidNumbers() {
			calls(p, p, point{c, c, c, c, c, c, c, c}, order.Graded())
			polynomial.Times(c, each(math.MaxInt), p)
		}
		for _, n := range []int{5, 64} {
			polynomial.Pow(p, n)
		}
	}
}

// The chapter: of the other layers, package polynomial imports rational, monomial and order alone.
func TestImports(t *testing.T) {
	files, _ := filepath.Glob("*.go")
	for _, name := range files {
		if strings.HasSuffix(name, "_test.go") {
			continue
		}
		f, err := parser.ParseFile(token.NewFileSet(), name, nil, parser.ImportsOnly)
		if err != nil {
			t.Fatal(err)
		}
		for _, i := range f.Imports {
			if !slices.Contains([]string{`"eliminant/api"`, `"eliminant/rational"`, `"eliminant/monomial"`, `"eliminant/order"`, `"slices"`}, i.Path.Value) {
				t.Errorf("%s imports %s", name, i.Path.Value)
			}
		}
	}
}
