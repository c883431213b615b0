package monomial_test

import (
	"go/parser"
	"go/token"
	"math"
	"path/filepath"
	"slices"
	"strings"
	"testing"

	"eliminant/api"
	"eliminant/monomial"
)

// overwrite changes all the memory of a list, also what lies behind its length.
func overwrite(l []api.Mono) {
	all := l[:cap(l)]
	for i := range all {
		all[i] = each(-5)
	}
}

// P1 and P2 of the document: Minimal modifies nothing, also not behind the end of the list, its results share no memory,
// and they repeat.
func TestArgumentsOfMinimal(t *testing.T) {
	r := source()
	lists := [][]api.Mono{nil, {mono(1)}, {mono(2), mono(1)}, {mono(1), mono(0, 1)}, {mono(0, 1), mono(1), mono(1, 1)}}
	for range 500 {
		lists = append(lists, randomList(r))
	}
	for _, l := range lists {
		long := append(slices.Clone(l), mono(7), mono(7))
		l := long[:len(l)]
		old := slices.Clone(long)
		first, second := monomial.Minimal(l), monomial.Minimal(l)
		if !slices.Equal(first, second) {
			t.Fatalf("Minimal(%v): %v and %v", l, first, second)
		}
		want := slices.Clone(second)
		overwrite(first)
		if !slices.Equal(long, old) {
			t.Fatalf("Minimal(%v) modifies its argument, or shares memory with it", old)
		}
		if !slices.Equal(second, want) {
			t.Fatalf("Minimal(%v): two results share memory", l)
		}
	}
}

// P2 of the document: In modifies nothing, and its results repeat.
func TestArgumentsOfIn(t *testing.T) {
	r := source()
	for range 500 {
		l, m := randomList(r), random(r, 4)
		old := slices.Clone(l)
		if monomial.In(m, l) != monomial.In(m, l) || !slices.Equal(l, old) {
			t.Fatalf("In(%v, %v)", m, old)
		}
	}
}

// P2 of the document: two results of All share no memory.
func TestResultsOfAll(t *testing.T) {
	for n := range 9 {
		for d := range 5 {
			first, _ := monomial.All(n, d)
			second, _ := monomial.All(n, d)
			want := slices.Clone(second)
			if !slices.Equal(first, second) {
				t.Fatalf("All(%d, %d): %v and %v", n, d, first, second)
			}
			overwrite(first)
			if third, _ := monomial.All(n, d); !slices.Equal(second, want) || !slices.Equal(third, want) {
				t.Fatalf("All(%d, %d): results share memory", n, d)
			}
		}
	}
}

// For monomials that are not valid the results are unspecified, but every call ends, without a panic.
func TestInvalidArguments(t *testing.T) {
	exponents := []int{0, 1, -1, 65535, 65536, 1 << 32, math.MaxInt, math.MinInt, math.MinInt + 1}
	var l []api.Mono
	for _, e := range exponents {
		l = append(l, each(e), mono(e), mono(5, e), power(7, e), plus(power(2, 1), power(6, e)))
	}
	for _, a := range l {
		monomial.Valid(a)
		monomial.Degree(a)
		monomial.Support(a)
		monomial.In(a, l)
		for _, b := range l {
			monomial.Cmp(a, b)
			monomial.Mul(a, b)
			monomial.Divides(a, b)
			monomial.Quo(a, b)
			monomial.Lcm(a, b)
			monomial.Gcd(a, b)
			monomial.Minimal([]api.Mono{a, b, mono(1)})
		}
	}
	monomial.Minimal(l)
}

// The chapter: package monomial imports nothing but api.
func TestImports(t *testing.T) {
	files, _ := filepath.Glob("*.go")
	for _, name := range files {
		if strings.HasSuffix(name, "_test.go") {
			continue
		}
		f, err := parser.ParseFile(token.NewFileSet(), name, nil, parser.ImportsOnly)
		if err != nil {
			t.Fatal(err)
		}
		for _, i := range f.Imports {
			if i.Path.Value != `"eliminant/api"` {
				t.Errorf("%s imports %s", name, i.Path.Value)
			}
		}
	}
}
