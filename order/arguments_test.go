package order_test

import (
	"go/parser"
	"go/token"
	"math"
	"path/filepath"
	"slices"
	"strings"
	"testing"

	"eliminant/api"
	"eliminant/order"
)

// overwrite changes all the memory of a list, also what lies behind its length.
func overwrite[R any](l []R, with R) {
	all := l[:cap(l)]
	for i := range all {
		all[i] = with
	}
}

// long returns a copy of a list that has more memory behind its end, and all of that memory.
func long[R any](l []R, end R) ([]R, []R) {
	all := append(slices.Clone(l), end, end, end, end, end, end, end, end, end)
	return all[:len(l)], all
}

// P1 and P2 of the document, E9: Full and Permute modify nothing, also not behind the end of the rows, their results share
// no memory with the arguments or with each other, and they repeat.
func TestArgumentsOfFullAndPermute(t *testing.T) {
	r := source()
	for _, given := range orders(r, 300) {
		perm := permutation(r.Shuffle)
		for name, call := range map[string]func(o api.Order) (api.Order, api.Errno){
			"Full": order.Full, "Permute": func(o api.Order) (api.Order, api.Errno) { return order.Permute(o, perm) },
		} {
			o, all := long(given, each(7))
			old := slices.Clone(all)
			one, e := call(o)
			two, f := call(o)
			want := slices.Clone(two)
			if !slices.Equal(one, two) || e != f {
				t.Errorf("%s(%v): %v, %v and %v, %v", name, o, one, e, two, f)
			}
			overwrite(one, each(-5))
			if !slices.Equal(all, old) {
				t.Errorf("%s(%v) modifies its argument, or shares memory with it", name, given)
			}
			if !slices.Equal(two, want) {
				t.Errorf("%s(%v): two results share memory", name, given)
			}
		}
	}
}

// P1 and P2 of the document, E9: the same of Sort.
func TestArgumentsOfSort(t *testing.T) {
	r := source()
	for _, given := range orders(r, 300) {
		var monos []api.Mono
		for range r.IntN(12) {
			a, b := pair(r)
			monos = append(monos, a, b)
		}
		o, allRows := long(given, each(7))
		l, all := long(monos, mono(7))
		old, oldRows := slices.Clone(all), slices.Clone(allRows)
		one, two := order.Sort(o, l), order.Sort(o, l)
		want := slices.Clone(two)
		if !slices.Equal(one, two) {
			t.Errorf("Sort(%v, %v): %v and %v", o, l, one, two)
		}
		overwrite(one, each(-5))
		if !slices.Equal(all, old) || !slices.Equal(allRows, oldRows) {
			t.Errorf("Sort(%v, %v) modifies its arguments, or shares memory with them", given, monos)
		}
		if !slices.Equal(two, want) {
			t.Errorf("Sort(%v, %v): two results share memory", given, monos)
		}
	}
}

// P2 of the document, E9: the other functions modify nothing, and their results repeat.
func TestArgumentsOfComparisons(t *testing.T) {
	r := source()
	for _, given := range orders(r, 300) {
		o, all := long(given, each(7))
		old := slices.Clone(all)
		a, b := pair(r)
		mask := uint8(r.IntN(256))
		same := order.Valid(o) == order.Valid(o) && order.Cmp(o, a, b) == order.Cmp(o, a, b) && order.Eliminates(o, mask) == order.Eliminates(o, mask)
		if !same || !slices.Equal(all, old) {
			t.Errorf("comparisons with %v: %v", given, same)
		}
	}
}

// P2 of the document: two of the named orders share no memory.
func TestResultsOfNamedOrders(t *testing.T) {
	for name, call := range map[string]func() api.Order{
		"Lex": order.Lex, "Graded": order.Graded, "Reverse": order.Reverse, "Eliminating": func() api.Order { return order.Eliminating(5) },
	} {
		one, two := call(), call()
		want := slices.Clone(two)
		overwrite(one, each(-5))
		if three := call(); !slices.Equal(two, want) || !slices.Equal(three, want) {
			t.Errorf("%s: two results share memory", name)
		}
	}
}

// For orders and monomials that are not valid most results are unspecified, but every call ends, without a panic.
func TestInvalidArguments(t *testing.T) {
	numbers := []int{0, 1, -1, 1001, 65535, 65536, 1 << 32, math.MaxInt, math.MinInt, math.MinInt + 1}
	var rows api.Order
	var monos []api.Mono
	for _, n := range numbers {
		for _, line := range []row{each(n), single(0, n), single(5, n), sum(each(2), single(6, n))} {
			rows, monos = append(rows, line), append(monos, line)
		}
	}
	list := []api.Order{rows, make(api.Order, 1000), joined(rows, rows)}
	for i := range rows {
		list = append(list, rows[i:i+1], rows[i:], rows[:i])
	}
	for _, o := range list {
		order.Valid(o)
		order.Sort(o, monos)
		order.Full(o)
		for _, a := range monos {
			order.Permute(o, a)
			for _, b := range monos {
				order.Cmp(o, a, b)
			}
		}
		for mask := range 256 {
			order.Eliminates(o, uint8(mask))
		}
	}
}

// The chapter: of the other layers, package order imports rational and monomial alone.
func TestImports(t *testing.T) {
	files, _ := filepath.Glob("*.go")
	for _, name := range files {
		if strings.HasSuffix(name, "_test.go") {
			continue
		}
		f, err := parser.ParseFile(token.NewFileSet(), name, nil, parser.ImportsOnly)
		if err != nil {
			t.Fatal(err)
		}
		for _, i := range f.Imports {
			if !slices.Contains([]string{`"eliminant/api"`, `"eliminant/rational"`, `"eliminant/monomial"`, `"cmp"`, `"slices"`}, i.Path.Value) {
				t.Errorf("%s imports %s", name, i.Path.Value)
			}
		}
	}
}
