package monomial_test

import (
	"math"
	"math/rand/v2"
	"slices"
	"testing"

	"eliminant/api"
	"eliminant/monomial"
)

// minimal finds the minimal elements by the definition.
func minimal(l []api.Mono) []api.Mono {
	var out []api.Mono
	for _, m := range l {
		least := true
		for _, d := range l {
			least = least && (d == m || !divides(d, m))
		}
		if least && !slices.Contains(out, m) {
			out = append(out, m)
		}
	}
	slices.SortFunc(out, func(a, b api.Mono) int { return compare(b, a) })
	return out
}

// randomList returns a list with repetitions, multiples and, now and then, the monomial 1.
func randomList(r *rand.Rand) []api.Mono {
	var out []api.Mono
	high := []int{1, 2, 4, 300, api.MaxExp}[r.IntN(5)]
	for range r.IntN(12) {
		m := random(r, high)
		if r.IntN(4) == 0 && len(out) > 0 {
			d := out[r.IntN(len(out))]
			for i := range m {
				m[i] = max(m[i], d[i])
			}
		}
		if m != mono() || r.IntN(4) == 0 {
			out = append(out, m)
		}
		if r.IntN(5) == 0 {
			out = append(out, m)
		}
	}
	return out
}

// P4.1, D7, with the example.
func TestMinimal(t *testing.T) {
	for _, c := range []struct{ l, want []api.Mono }{
		{[]api.Mono{mono(1, 2), mono(2, 0), mono(1, 1), mono(2, 0), mono(1, 2)}, []api.Mono{mono(2), mono(1, 1)}},
		{nil, nil}, {[]api.Mono{}, nil}, {[]api.Mono{mono()}, []api.Mono{mono()}}, {[]api.Mono{mono(), mono(), mono()}, []api.Mono{mono()}},
		{[]api.Mono{mono(5), each(9), mono(), power(7, 1)}, []api.Mono{mono()}},
		{[]api.Mono{power(7, 1), mono(1), power(3, 1)}, []api.Mono{mono(1), power(3, 1), power(7, 1)}},
		{[]api.Mono{mono(0, 1), mono(1, 0), mono(0, 1), mono(1, 0)}, []api.Mono{mono(1), mono(0, 1)}},
		{[]api.Mono{mono(3), mono(2, 1), mono(1, 2), mono(0, 3)}, []api.Mono{mono(3), mono(2, 1), mono(1, 2), mono(0, 3)}},
		{[]api.Mono{mono(0, 3), mono(1, 2), mono(2, 1), mono(3)}, []api.Mono{mono(3), mono(2, 1), mono(1, 2), mono(0, 3)}},
		{[]api.Mono{mono(1), mono(2), mono(3), mono(4)}, []api.Mono{mono(1)}}, {[]api.Mono{mono(4), mono(3), mono(2), mono(1)}, []api.Mono{mono(1)}},
		{[]api.Mono{each(65535), mono(65535), mono(65534, 1)}, []api.Mono{mono(65535), mono(65534, 1)}},
		{[]api.Mono{mono(1, 0, 65535), mono(0, 1), mono(1, 1)}, []api.Mono{mono(1, 0, 65535), mono(0, 1)}},
	} {
		if got := monomial.Minimal(c.l); !slices.Equal(got, c.want) {
			t.Errorf("Minimal(%v): %v, want %v", c.l, got, c.want)
		}
	}
}

// P4.1, D7: against the definition; the order of the list does not matter.
func TestMinimalOfRandomLists(t *testing.T) {
	r := source()
	for range 20000 {
		l := randomList(r)
		want := minimal(l)
		if got := monomial.Minimal(l); !slices.Equal(got, want) {
			t.Errorf("Minimal(%v): %v, want %v", l, got, want)
		}
		r.Shuffle(len(l), func(i, k int) { l[i], l[k] = l[k], l[i] })
		if got := monomial.Minimal(l); !slices.Equal(got, want) {
			t.Errorf("Minimal(%v): %v, want %v", l, got, want)
		}
	}
}

// P4.1, D7: each list of at most three elements, of all that are possible for small exponents.
func TestMinimalOfShortLists(t *testing.T) {
	few := below(2, 2, 5)
	for _, a := range few {
		for _, b := range few {
			for _, c := range few {
				for _, l := range [][]api.Mono{{a}, {a, b}, {a, b, c}} {
					if got := monomial.Minimal(l); !slices.Equal(got, minimal(l)) {
						t.Errorf("Minimal(%v): %v, want %v", l, got, minimal(l))
					}
				}
			}
		}
	}
}

// P4.1, D7: long lists, in which all elements are minimal, or one is.
func TestMinimalOfLongLists(t *testing.T) {
	l, _ := monomial.All(8, 6)
	slices.Reverse(l)
	long := append(slices.Clone(l), l...)
	slices.Reverse(l)
	if got := monomial.Minimal(long); !slices.Equal(got, l) {
		t.Errorf("of %d monomials of one degree, %d are minimal", len(l), len(got))
	}
	if got := monomial.Minimal(append(long, mono())); !slices.Equal(got, []api.Mono{{}}) {
		t.Errorf("with 1: %d elements", len(got))
	}
}

// P4.1, D7.
func TestIn(t *testing.T) {
	l := []api.Mono{mono(2, 1), mono(0, 3), power(7, 65535)}
	for _, c := range []struct {
		m    api.Mono
		l    []api.Mono
		want bool
	}{
		{mono(2, 1), l, true}, {mono(2, 2), l, true}, {mono(9, 9), l, true}, {mono(1, 2), l, false}, {mono(2), l, false}, {mono(0, 3), l, true}, {mono(0, 2, 65535), l, false},
		{mono(), l, false}, {power(7, 65535), l, true}, {power(7, 65534), l, false}, {each(65535), l, true}, {mono(), nil, false}, {each(65535), nil, false},
		{mono(), []api.Mono{mono()}, true}, {mono(1), []api.Mono{mono(2), mono()}, true}, {mono(1), []api.Mono{mono(), mono(2)}, true},
	} {
		if got := monomial.In(c.m, c.l); got != c.want {
			t.Errorf("In(%v, %v): %v", c.m, c.l, got)
		}
	}
}

// P4.6: a monomial is divisible by an element exactly if it is divisible by a minimal one; no minimal element divides
// another one.
func TestMinimalElements(t *testing.T) {
	r := source()
	for range 2000 {
		l := randomList(r)
		least := monomial.Minimal(l)
		for i, m := range least {
			for k, d := range least {
				if i != k && monomial.Divides(d, m) {
					t.Errorf("Minimal(%v): %v divides %v", l, d, m)
				}
			}
			if !slices.Contains(l, m) || monomial.In(m, slices.Delete(slices.Clone(least), i, i+1)) {
				t.Errorf("Minimal(%v): %v", l, m)
			}
		}
		for range 20 {
			m := random(r, []int{1, 4, 300, api.MaxExp}[r.IntN(4)])
			want := slices.ContainsFunc(l, func(d api.Mono) bool { return divides(d, m) })
			if monomial.In(m, l) != want || monomial.In(m, least) != want {
				t.Errorf("%v in the ideal of %v: %v, by the minimal elements %v, want %v", m, l, monomial.In(m, l), monomial.In(m, least), want)
			}
		}
	}
}

// P4.1, D8, with the examples.
func TestAll(t *testing.T) {
	for _, c := range []struct {
		n, d int
		want []api.Mono
	}{
		{2, 2, []api.Mono{mono(2), mono(1, 1), mono(0, 2)}}, {0, 0, []api.Mono{mono()}}, {0, 1, nil}, {0, 12, nil}, {8, 0, []api.Mono{mono()}}, {1, 12, []api.Mono{mono(12)}},
		{3, 2, []api.Mono{mono(2), mono(1, 1), mono(1, 0, 1), mono(0, 2), mono(0, 1, 1), mono(0, 0, 2)}},
		{8, 1, []api.Mono{power(0, 1), power(1, 1), power(2, 1), power(3, 1), power(4, 1), power(5, 1), power(6, 1), power(7, 1)}},
	} {
		if got, e := monomial.All(c.n, c.d); !slices.Equal(got, c.want) || e != api.OK {
			t.Errorf("All(%d, %d): %v, %v, want %v", c.n, c.d, got, e, c.want)
		}
	}
}

// P4.1, D8: an error, and no list.
func TestAllWithoutResult(t *testing.T) {
	for _, n := range []int{math.MinInt, -1 << 32, -1, 9, 256, 1 << 32, 1<<32 + 1, math.MaxInt} {
		for _, d := range []int{math.MinInt, -1, 0, 1, 12, 13, math.MaxInt} {
			if l, e := monomial.All(n, d); len(l) != 0 || e != api.ErrArg {
				t.Errorf("All(%d, %d): %v, %v", n, d, l, e)
			}
		}
	}
	for _, d := range []int{math.MinInt, -1 << 32, -1, 13, 256, 1 << 32, math.MaxInt} {
		for n := range 9 {
			if l, e := monomial.All(n, d); len(l) != 0 || e != api.ErrArg {
				t.Errorf("All(%d, %d): %v, %v", n, d, l, e)
			}
		}
	}
}

// P4.7: strictly decreasing monomials of the degree, in the variables, of which there are as many as there are choices.
func TestAllHasEachMonomialOnce(t *testing.T) {
	for n := range 9 {
		for d := range 13 {
			l, e := monomial.All(n, d)
			if e != api.OK || len(l) != choices(n, d) {
				t.Errorf("All(%d, %d): %d monomials, %v, want %d", n, d, len(l), e, choices(n, d))
			}
			for i, m := range l {
				if slices.Min(m[:]) < 0 || total(m) != d || monomial.Support(m)>>n != 0 {
					t.Errorf("All(%d, %d): %v", n, d, m)
				}
				if i > 0 && compare(l[i-1], m) != 1 {
					t.Errorf("All(%d, %d): %v before %v", n, d, l[i-1], m)
				}
			}
		}
	}
}

// P4.7: those of all degrees together are all monomials.
func TestAllOfAllDegrees(t *testing.T) {
	var l []api.Mono
	for d := range 10 {
		more, _ := monomial.All(3, d)
		l = append(l, more...)
	}
	for _, m := range below(3, 0, 1, 2) {
		if !slices.Contains(l, m) {
			t.Errorf("%v is missing", m)
		}
	}
}

// choices counts the monomials of degree d in n variables: those without the last variable, and its multiples.
func choices(n, d int) int {
	if d == 0 {
		return 1
	}
	if n == 0 {
		return 0
	}
	return choices(n-1, d) + choices(n, d-1)
}
