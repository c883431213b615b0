package modular_test

import (
	"go/parser"
	"go/token"
	"math"
	"math/big"
	"path/filepath"
	"slices"
	"strings"
	"testing"

	"eliminant/api"
	"eliminant/modular"
)

func copyOf(a api.Int) api.Int { return api.Int{Neg: a.Neg, Mag: slices.Clone(a.Mag)} }

// overwrite changes all the memory of an integer, also what lies behind its length.
func overwrite(a api.Int) {
	all := a.Mag[:cap(a.Mag)]
	for i := range all {
		all[i] ^= 0xdeadbeef
	}
}

// P1 and P2 of the document: Rebuild modifies nothing, results share no memory, and results repeat.
func TestArgumentsOfRebuild(t *testing.T) {
	r := source()
	for i := range 500 {
		m := fromBig(new(big.Int).Abs(randomBig(r, 1+i%100)))
		u := fromBig(randomBig(r, 1+i%120))
		if i%3 == 0 {
			u = number(int64(i%7 - 3))
		}
		oldU, oldM := copyOf(u), copyOf(m)
		first, ok := modular.Rebuild(u, m)
		second, again := modular.Rebuild(u, m)
		if ok != again || !same(first, second) {
			t.Fatalf("Rebuild(%v, %v): two results", u, m)
		}
		overwrite(first.Num)
		if !sameInt(first.Den, second.Den) {
			t.Fatalf("Rebuild(%v, %v): numerator and denominator share memory", oldU, oldM)
		}
		overwrite(first.Den)
		if !sameInt(u, oldU) || !sameInt(m, oldM) {
			t.Fatalf("Rebuild(%v, %v) modifies an argument, or shares memory with it", oldU, oldM)
		}
	}
}

// P1 and P2 of the document: Chinese modifies nothing, not even the order of the primes, and results share no memory.
func TestArgumentsOfChinese(t *testing.T) {
	for _, p := range [][]uint64{nil, {7}, {7, 3, 5, 2}, {2147483647, 2, 2147483629}, {5, 3, 5}, {5, 4, 3}} {
		l := make([]uint64, len(p))
		for i := range l {
			l[i] = uint64(100 - i)
		}
		oldL, oldP := slices.Clone(l), slices.Clone(p)
		u, m, e := modular.Chinese(l, p)
		v, n, f := modular.Chinese(l, p)
		if !slices.Equal(l, oldL) || !slices.Equal(p, oldP) {
			t.Fatalf("Chinese(%v, %v) modifies an argument", oldL, oldP)
		}
		if e != f || !sameInt(u, v) || !sameInt(m, n) {
			t.Fatalf("Chinese(%v, %v): two results", l, p)
		}
		overwrite(u)
		if !sameInt(m, n) {
			t.Fatalf("Chinese(%v, %v): both results share memory", l, p)
		}
	}
}

// P2 of the document: Reduce does not modify its argument.
func TestArgumentOfReduce(t *testing.T) {
	r := source()
	for i := range 200 {
		a := randomRat(r, 1+i)
		old := api.Rat{Num: copyOf(a.Num), Den: copyOf(a.Den)}
		for _, p := range somePrimes() {
			x, e := modular.Reduce(a, p)
			y, f := modular.Reduce(a, p)
			if x != y || e != f || !same(a, old) {
				t.Fatalf("%v modulo %d: %d, %v and %d, %v", toRat(old), p, x, e, y, f)
			}
		}
	}
}

// For arguments that are not valid the results are unspecified, but every call ends, without a panic.
func TestInvalidArguments(t *testing.T) {
	wrong := []api.Int{
		{}, {Neg: true}, {Mag: []uint32{0}}, {Neg: true, Mag: []uint32{0, 0}}, {Mag: []uint32{5, 0}}, {Neg: true, Mag: []uint32{1, 2, 3, 0}}, number(-7), number(6), number(1 << 40),
	}
	moduli := []uint64{0, 1, 4, 6, 1<<31 - 2, 1 << 31, 1<<32 - 1, 1 << 32, 1 << 63, math.MaxUint64}
	for _, p := range moduli {
		for _, a := range append([]uint64{2, 3, 9}, moduli...) {
			modular.Inv(a, p)
			for _, n := range moduli {
				modular.Pow(a, n, p)
			}
		}
		modular.Pow(3, 1000003, p)
		modular.Chinese([]uint64{1}, []uint64{p})
	}
	for _, a := range wrong {
		for _, b := range wrong {
			modular.Rebuild(a, b)
			for _, p := range append(somePrimes(), moduli...) {
				modular.Reduce(api.Rat{Num: a, Den: b}, p)
			}
		}
	}
}

// The chapter: of the other layers, package modular imports integer and rational alone.
func TestImports(t *testing.T) {
	files, _ := filepath.Glob("*.go")
	for _, name := range files {
		if strings.HasSuffix(name, "_test.go") {
			continue
		}
		f, err := parser.ParseFile(token.NewFileSet(), name, nil, parser.ImportsOnly)
		if err != nil {
			t.Fatal(err)
		}
		for _, i := range f.Imports {
			if !slices.Contains([]string{`"eliminant/api"`, `"eliminant/integer"`, `"eliminant/rational"`, `"slices"`}, i.Path.Value) {
				t.Errorf("%s imports %s", name, i.Path.Value)
			}
		}
	}
}
