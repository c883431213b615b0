package polynomial_test

import (
	"slices"
	"testing"

	"eliminant/api"
	"eliminant/polynomial"
)

// P6.1, F1.
func TestValid(t *testing.T) {
	one := number(1, 1)
	for _, p := range samples(t, source(), 200) {
		if !polynomial.Valid(p) {
			t.Errorf("Valid(%s): false", text(p))
		}
	}
	for i, p := range []api.Poly{nil, {}, {{C: one}}, {{C: one, M: each(65535)}}, {{C: one, M: mono(65535)}, {C: one, M: mono(65534, 65535)}}, {{C: one, M: single(6, 1)}, {C: one, M: single(7, 65535)}, {C: one}}} {
		if !polynomial.Valid(p) {
			t.Errorf("case %d: Valid(%s): false", i, text(p))
		}
	}
	for i, p := range []api.Poly{
		{{}}, {{C: number(0, 1)}}, {{C: number(0, 1), M: mono(1)}}, {{C: one, M: mono(1)}, {C: one, M: mono(1)}}, {{C: one, M: mono(1)}, {C: number(-1, 1), M: mono(1)}}, {{C: one}, {C: one, M: mono(1)}},
		{{C: one, M: mono(0, 9)}, {C: one, M: mono(1)}}, {{C: one, M: single(7, 1)}, {C: one, M: single(6, 1)}}, {{C: one, M: mono(2)}, {C: one}, {C: one, M: mono(1)}},
	} {
		if polynomial.Valid(p) {
			t.Errorf("case %d: Valid(%s): true", i, text(p))
		}
	}
}

// invalidNumbers returns values of the type of a number that are none.
func invalidNumbers() []api.Rat {
	of := func(words ...uint32) api.Int { return api.Int{Mag: words} }
	return []api.Rat{
		{}, {Num: of(1)}, {Den: of(1)}, {Num: of(2), Den: of(4)}, {Num: of(3), Den: of(3)}, {Num: of(1), Den: api.Int{Neg: true, Mag: []uint32{1}}}, {Den: of(2)},
		{Num: of(1, 0), Den: of(1)}, {Num: of(1), Den: of(1, 0)}, {Num: api.Int{Neg: true}, Den: of(1)}, {Num: of(0), Den: of(1)},
	}
}

// P6.1, F1: a term that is not valid, at each place.
func TestValidLooksAtEachTerm(t *testing.T) {
	p := read(t, "x0^2 x1 - 1/2 x0 x3^5 + x0 + x7 - 7")
	if !polynomial.Valid(p) {
		t.Fatalf("Valid(%s): false", text(p))
	}
	for k := range p {
		for _, c := range append(invalidNumbers(), number(0, 1)) {
			q := slices.Clone(p)
			q[k].C = c
			if polynomial.Valid(q) {
				t.Errorf("Valid is true with the coefficient %v", c)
			}
		}
		for i := range api.MaxVars {
			for _, e := range []int{-1, 65536, 1 << 40, -1 << 63} {
				q := slices.Clone(p)
				q[k].M[i] = e
				if polynomial.Valid(q) {
					t.Errorf("Valid(%s): true", text(q))
				}
			}
		}
		for n := range k {
			for _, q := range []api.Poly{slices.Clone(p), slices.Insert(slices.Clone(p), k, p[n]), slices.Insert(slices.Clone(p), k, p[k])} {
				if len(q) == len(p) {
					q[n], q[k] = q[k], q[n]
				}
				if polynomial.Valid(q) {
					t.Errorf("Valid(%s): true", text(q))
				}
			}
		}
	}
	// Exponents that are not valid where the lexicographic order holds all the same.
	for _, q := range []api.Poly{{{C: number(1, 1), M: mono(65536)}, {C: number(1, 1)}}, {{C: number(1, 1)}, {C: number(1, 1), M: mono(-1)}}, {{C: number(1, 1), M: mono(1)}, {C: number(1, 1), M: mono(0, 65536)}}} {
		if polynomial.Valid(q) {
			t.Errorf("Valid(%s): true", text(q))
		}
	}
}

// P6.1, F1.
func TestConstant(t *testing.T) {
	for _, c := range []api.Rat{number(1, 1), number(-1, 1), number(7, 2), number(-22, 7), number(1<<40, 1<<33+1)} {
		expect(t, "Constant", polynomial.Constant(c), api.Poly{{C: c}})
	}
	expect(t, "Constant of 0", polynomial.Constant(number(0, 1)), nil)
}

// P6.1, F1.
func TestVar(t *testing.T) {
	for i := range api.MaxVars {
		expect(t, "Var", must(t)(polynomial.Var(i)), variable(i))
	}
	for _, i := range []int{-1, 8, 9, 64, -1 << 63, 1<<63 - 1} {
		p, e := polynomial.Var(i)
		expectError(t, "Var", p, e, api.ErrArg)
	}
}

// compare compares by the definition.
func compare(p, q api.Poly) int {
	for k := range min(len(p), len(q)) {
		if c := slices.Compare(p[k].M[:], q[k].M[:]); c != 0 {
			return c
		}
		if c := bigOf(p[k].C).Cmp(bigOf(q[k].C)); c != 0 {
			return c
		}
	}
	return max(-1, min(1, len(p)-len(q)))
}

// near returns polynomials that differ from p in one place.
func near(p api.Poly) []api.Poly {
	var out []api.Poly
	for k := range p {
		out = append(out, p[:k], p[k:])
		for _, c := range []api.Rat{number(1, 1), number(-1, 1), number(1, 2), number(2, 1)} {
			q := slices.Clone(p)
			q[k].C = c
			out = append(out, q)
		}
		for i := range api.MaxVars {
			q := slices.Clone(p)
			q[k].M[i] += 1
			if polynomial.Valid(q) {
				out = append(out, q)
			}
		}
	}
	return out
}

// P6.1, F3; P6.7: against the definition, also for polynomials that differ in one place alone.
func TestSameAndCmp(t *testing.T) {
	r := source()
	list := samples(t, r, 120)
	for _, p := range samples(t, r, 40) {
		list = append(list, near(p)...)
	}
	r.Shuffle(len(list), func(i, k int) { list[i], list[k] = list[k], list[i] })
	for _, p := range list[:150] {
		for _, q := range append(near(p), list...) {
			want := compare(p, q)
			if got := polynomial.Cmp(p, q); got != want {
				t.Errorf("Cmp of %s: %d, want %d", texts(p, q), got, want)
			}
			if got := polynomial.Same(p, q); got != (want == 0) || got != same(p, q) {
				t.Errorf("Same of %s: %v", texts(p, q), got)
			}
		}
		if again := modelOf(p).poly(); polynomial.Cmp(p, again) != 0 || !polynomial.Same(p, again) {
			t.Errorf("%s and its copy", text(p))
		}
	}
}

// P6.7: a total order, in which 0 is the first.
func TestOrderIsTotal(t *testing.T) {
	list := samples(t, source(), 40)
	list = append(list, near(read(t, "x0^2 - x1 + 3"))...)
	for _, p := range list {
		if got := polynomial.Cmp(nil, p); (got == 0) != (len(p) == 0) || got > 0 {
			t.Errorf("Cmp of 0 and %s: %d", text(p), got)
		}
		for _, q := range list {
			here := polynomial.Cmp(p, q)
			if polynomial.Cmp(q, p) != -here || (here == 0) != same(p, q) {
				t.Errorf("Cmp of %s: %d, and back %d", texts(p, q), here, polynomial.Cmp(q, p))
			}
			for _, s := range list {
				if here <= 0 && polynomial.Cmp(q, s) <= 0 && polynomial.Cmp(p, s) > min(here, polynomial.Cmp(q, s)) {
					t.Errorf("%s are not in order", texts(p, q, s))
				}
			}
		}
	}
}

// P6.1, F3: the order by examples, each of which is before the next one.
func TestCmpByExamples(t *testing.T) {
	list := []string{
		"0", "-1", "-1/2", "1/3", "1/2", "2", "x7", "x7 - 1", "x7 + 1", "2 x7", "x7^2", "x7^2 + 1", "x7^2 - x7", "x7^2 + x7", "x1^9 x2^9", "- x0", "x0", "x0 - 5", "x0 + 5", "x0 - x1", "x0 + x1", "x0 + x1 + 1",
		"3/2 x0", "x0 x1", "x0 x1 - 1", "x0^2",
	}
	for i := range list {
		for k := range list {
			want := max(-1, min(1, i-k))
			if got := polynomial.Cmp(read(t, list[i]), read(t, list[k])); got != want {
				t.Errorf("Cmp(%s, %s): %d, want %d", list[i], list[k], got, want)
			}
		}
	}
}
