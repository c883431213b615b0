package rational_test

import (
	"go/parser"
	"go/token"
	"path/filepath"
	"slices"
	"strings"
	"testing"

	"eliminant/api"
	"eliminant/integer"
	"eliminant/rational"
)

// call calls every function for a and b, and returns the numbers that they return; an integer is the numerator of one.
func call(a, b api.Rat) map[string]api.Rat {
	out := map[string]api.Rat{
		"Add": rational.Add(a, b), "Sub": rational.Sub(a, b), "Mul": rational.Mul(a, b), "Neg": rational.Neg(a), "Floor": {Num: rational.Floor(a)},
	}
	out["New"], _ = rational.New(a.Num, b.Num)
	out["New of the parts"], _ = rational.New(a.Num, a.Den)
	out["Inv"], _ = rational.Inv(a)
	out["Div"], _ = rational.Div(a, b)
	out["Between"], _ = rational.Between(a, b)
	out["Between of one number"], _ = rational.Between(a, a)
	rational.Valid(a)
	rational.Sign(a)
	rational.Cmp(a, b)
	rational.Bits(a)
	rational.Text(a)
	return out
}

func copyOfInt(a api.Int) api.Int { return api.Int{Neg: a.Neg, Mag: slices.Clone(a.Mag)} }

func copyOf(a api.Rat) api.Rat { return api.Rat{Num: copyOfInt(a.Num), Den: copyOfInt(a.Den)} }

// overwrite changes all the memory of an integer, also what lies behind its length.
func overwrite(a api.Int) {
	all := a.Mag[:cap(a.Mag)]
	for i := range all {
		all[i] ^= 0xdeadbeef
	}
}

// P1 and P2 of the document, and B10: nothing is modified, no memory is shared, and results repeat.
func TestArguments(t *testing.T) {
	list := samples(t, source(), 30)
	for _, a := range list {
		for _, b := range list {
			a, b := copyOf(a), copyOf(b)
			oldA, oldB := copyOf(a), copyOf(b)
			first, second := call(a, b), call(a, b)
			if !same(a, oldA) || !same(b, oldB) {
				t.Fatalf("an argument was modified: %v", texts([]api.Rat{oldA, oldB}))
			}
			for name, x := range first {
				if !same(x, second[name]) {
					t.Fatalf("%s of %v: two results", name, texts([]api.Rat{a, b}))
				}
				overwrite(x.Num)
				if !sameInt(x.Den, second[name].Den) {
					t.Fatalf("%s of %v: numerator and denominator share memory", name, texts([]api.Rat{oldA, oldB}))
				}
				overwrite(x.Den)
				if !same(a, oldA) || !same(b, oldB) {
					t.Fatalf("%s of %v shares memory with an argument", name, texts([]api.Rat{oldA, oldB}))
				}
			}
		}
	}
}

// Numbers that are not valid have unspecified results, but every call ends, without a panic.
func TestInvalidNumbers(t *testing.T) {
	ints := []api.Int{
		{}, integer.Of(1), integer.Of(-2), integer.Of(6), integer.Of(-1 << 40), {Mag: []uint32{1, 2, 3, 4, 5}},
		{Neg: true}, {Mag: []uint32{0}}, {Neg: true, Mag: []uint32{0, 0}}, {Mag: []uint32{5, 0}}, {Neg: true, Mag: []uint32{1, 2, 3, 0}},
	}
	var list []api.Rat
	for _, n := range ints {
		for _, d := range ints {
			list = append(list, api.Rat{Num: n, Den: d})
		}
	}
	for _, a := range list {
		for _, b := range list {
			call(a, b)
		}
	}
}

// The chapter: of the other layers, package rational imports integer alone.
func TestImports(t *testing.T) {
	files, _ := filepath.Glob("*.go")
	for _, name := range files {
		if strings.HasSuffix(name, "_test.go") {
			continue
		}
		f, err := parser.ParseFile(token.NewFileSet(), name, nil, parser.ImportsOnly)
		if err != nil {
			t.Fatal(err)
		}
		for _, i := range f.Imports {
			if !slices.Contains([]string{`"eliminant/api"`, `"eliminant/integer"`, `"slices"`, `"strings"`}, i.Path.Value) {
				t.Errorf("%s imports %s", name, i.Path.Value)
			}
		}
	}
}
