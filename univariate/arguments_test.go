package univariate_test

import (
	"go/parser"
	"go/token"
	"math"
	"path/filepath"
	"slices"
	"strconv"
	"strings"
	"testing"

	"eliminant/api"
	"eliminant/univariate"
)

// calls calls every function, and returns the polynomials and numbers that they return; a number is a coefficient.
func calls(a, b api.Upoly, p api.Poly, x api.Rat) map[string]api.Upoly {
	out := map[string]api.Upoly{
		"Add": univariate.Add(a, b), "Sub": univariate.Sub(a, b), "Mul": univariate.Mul(a, b), "Scale": univariate.Scale(x, a), "Scale by 1": univariate.Scale(number(1, 1), a), "Monic": univariate.Monic(a), "Gcd": univariate.Gcd(a, b),
		"Derive": univariate.Derive(a), "Eval": {univariate.Eval(a, x)}, "Compose": univariate.Compose(a, b), "Compose with x": univariate.Compose(a, api.Upoly{number(0, 1), number(1, 1)}), "Resultant": {univariate.Resultant(a, b)},
	}
	out["the quotient"], out["the remainder"], _ = univariate.DivMod(a, b)
	out["the quotient by 1"], _, _ = univariate.DivMod(a, api.Upoly{number(1, 1)})
	out["the divisor"], out["the first cofactor"], out["the second cofactor"] = univariate.Bezout(a, b)
	for i, f := range univariate.SquareFree(a) {
		out["the squarefree part "+strconv.Itoa(i)] = f.P
	}
	out["From"], _ = univariate.From(p, 2)
	terms, _ := univariate.To(a, 2)
	for _, t := range terms {
		out["To"] = append(out["To"], t.C)
	}
	univariate.Valid(a)
	return out
}

// overwrite changes all the memory of an integer, also what lies behind its length.
func overwrite(a api.Int) {
	all := a.Mag[:cap(a.Mag)]
	for i := range all {
		all[i] ^= 0xdeadbeef
	}
}

// long returns a copy of a polynomial that has more memory behind its end, and all of that memory.
func long(a api.Upoly) (api.Upoly, api.Upoly) {
	all := append(modelOf(a).poly(), make(api.Upoly, 5)...)
	return all[:len(a)], all
}

// P1 and P2 of the document: nothing is modified, also not behind the end of a polynomial, results share no memory with
// the arguments or with each other, and they repeat.
func TestArguments(t *testing.T) {
	polys := samples(t, source(), 12)
	for _, given := range polys {
		for n, other := range polys {
			a, allA := long(given)
			b, allB := long(other)
			p, _ := univariate.To(given, 2)
			x := numbers(t)[n%len(numbers(t))]
			wantA, wantB := append(modelOf(given).poly(), make(api.Upoly, 5)...), append(modelOf(other).poly(), make(api.Upoly, 5)...)
			wantP, _ := univariate.To(given, 2)
			wantX := modelOf(api.Upoly{x})[0]
			unchanged := func() bool {
				return same(allA, wantA) && same(allB, wantB) && sameTerms(p, wantP) && sameRat(x, ratOf(wantX))
			}
			one, two := calls(a, b, p, x), calls(a, b, p, x)
			if !unchanged() {
				t.Fatalf("an argument was modified: %s", texts(given, other))
			}
			for name, got := range one {
				for k, c := range got {
					if len(got) != len(two[name]) || !sameRat(c, two[name][k]) {
						t.Fatalf("%s of %s: two results, or two parts that share memory", name, texts(given, other))
					}
					overwrite(c.Num)
					if !sameInt(c.Den, two[name][k].Den) {
						t.Fatalf("%s of %s: numerator and denominator share memory", name, texts(given, other))
					}
					overwrite(c.Den)
				}
				clear(got[:cap(got)])
				if !unchanged() {
					t.Fatalf("%s of %s shares memory with an argument", name, texts(given, other))
				}
			}
		}
	}
}

// invalidPolynomials returns values of the type of a polynomial that are none.
func invalidPolynomials() []api.Upoly {
	zero, one, two := number(0, 1), number(1, 1), number(-2, 1)
	out := []api.Upoly{{zero}, {one, zero}, {zero, zero, zero}, {two, one, zero, zero}}
	for _, c := range invalidNumbers() {
		out = append(out, api.Upoly{c}, api.Upoly{one, c}, api.Upoly{c, two}, api.Upoly{two, c, one, c}, api.Upoly{c, c, c, c, c}, api.Upoly{c, one, two, c, zero}, api.Upoly{one, two, c, c, two, two, one})
	}
	return out
}

// For what is not valid most results are unspecified, but every call ends, without a panic.
func TestInvalidArguments(t *testing.T) {
	polys := append(invalidPolynomials(), nil, read(t, "x + 1"), read(t, "2 x^3 - 1/2"))
	extreme := []int{0, 1, -1, 65535, 65536, 1 << 32, math.MaxInt, math.MinInt}
	for _, a := range polys {
		for _, b := range polys {
			calls(a, b, nil, number(2, 3))
		}
		for _, c := range invalidNumbers() {
			calls(a, a, api.Poly{{C: c}, term(c, 0, 0, 3), term(number(1, 1), 0, 0, 5), {C: c}}, c)
		}
	}
	for _, e := range extreme {
		for _, f := range extreme {
			p := api.Poly{term(number(1, 1), 0, 0, e), term(number(0, 1), 0, 0, f), term(number(1, 1), 0, 0, f), term(number(-1, 1), 0, 0, e)}
			if got, e := univariate.From(p, 2); e != api.OK && len(got) > 0 {
				t.Errorf("From with exponents that are not valid: %s, %v", text(got), e)
			}
		}
	}
}

// The chapter: of the other layers, package univariate imports rational alone.
func TestImports(t *testing.T) {
	files, _ := filepath.Glob("*.go")
	for _, name := range files {
		if strings.HasSuffix(name, "_test.go") {
			continue
		}
		f, err := parser.ParseFile(token.NewFileSet(), name, nil, parser.ImportsOnly)
		if err != nil {
			t.Fatal(err)
		}
		for _, i := range f.Imports {
			if !slices.Contains([]string{`"eliminant/api"`, `"eliminant/rational"`, `"slices"`}, i.Path.Value) {
				t.Errorf("%s imports %s", name, i.Path.Value)
			}
		}
	}
}
