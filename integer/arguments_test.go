package integer_test

import (
	"go/parser"
	"go/token"
	"path/filepath"
	"slices"
	"strings"
	"testing"

	"eliminant/api"
	"eliminant/integer"
)

// results calls every function that returns integers, and returns the integers of each call.
func results(a, b api.Int) map[string][]api.Int {
	out := map[string][]api.Int{
		"Neg": {integer.Neg(a)},
		"Add": {integer.Add(a, b)},
		"Sub": {integer.Sub(a, b)},
		"Mul": {integer.Mul(a, b)},
		"Gcd": {integer.Gcd(a, b)},
	}
	q, r, _ := integer.DivMod(a, b)
	out["DivMod"] = []api.Int{q, r}
	g, u, v := integer.Bezout(a, b)
	out["Bezout"] = []api.Int{g, u, v}
	for name, n := range map[string]int{"Pow 0": 0, "Pow 1": 1, "Pow 5": 5} {
		p, _ := integer.Pow(a, n)
		out[name] = []api.Int{p}
	}
	for name, k := range map[string]int{"Root 1": 1, "Root 2": 2, "Root 100": 100} {
		r, _ := integer.Root(absolute(a), k)
		out[name] = []api.Int{r}
	}
	return out
}

func copyOf(a api.Int) api.Int { return api.Int{Neg: a.Neg, Mag: slices.Clone(a.Mag)} }

// overwrite changes all the memory of an integer, also what lies behind its length.
func overwrite(a api.Int) {
	all := a.Mag[:cap(a.Mag)]
	for i := range all {
		all[i] ^= 0xdeadbeef
	}
}

// P1 and P2 of the document, and the chapter: nothing is modified, and no memory is shared.
func TestArguments(t *testing.T) {
	r := source()
	list := []api.Int{integer.Of(0), integer.Of(1), integer.Of(-1), integer.Of(6), integer.Of(-4), integer.Of(1 << 40)}
	for i := range 40 {
		list = append(list, random(r, 1+i%8))
	}
	for _, a := range list {
		for _, b := range list {
			a, b := copyOf(a), copyOf(b)
			oldA, oldB := copyOf(a), copyOf(b)
			first, second := results(a, b), results(a, b)
			integer.Valid(a)
			integer.Small(a)
			integer.Sign(a)
			integer.Cmp(a, b)
			integer.Bits(a)
			integer.Text(a)
			if !same(a, oldA) || !same(b, oldB) {
				t.Fatalf("an argument was modified: %v, %v", oldA, oldB)
			}
			// Overwriting a result must change neither the arguments nor the results that come after it.
			for name, list := range first {
				for i, x := range list {
					if want := second[name][i]; !integer.Valid(x) || !same(x, want) {
						t.Fatalf("result %d of %s of %s and %s: %v, want %v", i, name, text(oldA), text(oldB), x, want)
					}
					overwrite(x)
				}
				if !same(a, oldA) || !same(b, oldB) {
					t.Fatalf("%s of %s and %s shares memory with an argument", name, text(oldA), text(oldB))
				}
			}
		}
	}
}

// A number as both arguments.
func TestSameArgumentTwice(t *testing.T) {
	for _, a := range samples(source(), 100) {
		checkArithmetic(t, a, a)
		checkBezout(t, a, a)
	}
}

// Integers that are not valid have unspecified results, but every call ends, without a panic.
func TestInvalidIntegers(t *testing.T) {
	wrong := []api.Int{
		{Neg: true}, {Mag: []uint32{0}}, {Neg: true, Mag: []uint32{0}}, {Mag: []uint32{5, 0}}, {Neg: true, Mag: []uint32{0, 0, 0, 0, 0}}, {Neg: true, Mag: []uint32{1, 2, 3, 4, 0, 0}},
	}
	list := append(slices.Clone(wrong), integer.Of(0), integer.Of(-7), integer.Of(1<<62), api.Int{Mag: []uint32{1, 2, 3, 4, 5, 6}})
	for _, a := range list {
		for _, b := range list {
			results(a, b)
			integer.Small(a)
			integer.Sign(a)
			integer.Cmp(a, b)
			integer.Bits(a)
			integer.Text(a)
			integer.Root(a, 3)
		}
	}
}

// The chapter: package integer imports nothing but api.
func TestImports(t *testing.T) {
	files, _ := filepath.Glob("*.go")
	for _, name := range files {
		if strings.HasSuffix(name, "_test.go") {
			continue
		}
		f, err := parser.ParseFile(token.NewFileSet(), name, nil, parser.ImportsOnly)
		if err != nil {
			t.Fatal(err)
		}
		for _, i := range f.Imports {
			if i.Path.Value != `"eliminant/api"` {
				t.Errorf("%s imports %s", name, i.Path.Value)
			}
		}
	}
}
