package order_test

import (
	"slices"
	"testing"

	"eliminant/api"
	"eliminant/order"
)

// P5.1, E8.
func TestSort(t *testing.T) {
	l := []api.Mono{mono(0, 2), mono(1), mono(0, 2), mono(), mono(1, 1), mono(1, 0, 1), mono(1)}
	for _, c := range []struct {
		o       api.Order
		l, want []api.Mono
	}{
		{nil, nil, nil}, {order.Reverse(), []api.Mono{}, nil}, {nil, []api.Mono{mono()}, []api.Mono{mono()}}, {order.Graded(), []api.Mono{mono(2), mono(2), mono(2)}, []api.Mono{mono(2)}},
		{order.Lex(), l, []api.Mono{mono(1, 1), mono(1, 0, 1), mono(1), mono(0, 2), mono()}}, {order.Graded(), l, []api.Mono{mono(1, 1), mono(1, 0, 1), mono(0, 2), mono(1), mono()}},
		{order.Reverse(), l, []api.Mono{mono(1, 1), mono(0, 2), mono(1, 0, 1), mono(1), mono()}}, {order.Eliminating(4), l, []api.Mono{mono(1, 0, 1), mono(1, 1), mono(0, 2), mono(1), mono()}},
		{api.Order{first(1, 3)}, []api.Mono{mono(0, 1), mono(4), mono(3), mono(0, 1), mono(3)}, []api.Mono{mono(4), mono(3), mono(0, 1)}},
		// All sums are equal here, and only equal monomials are the same one.
		{api.Order{each(0)}, l, []api.Mono{mono(1, 1), mono(1, 0, 1), mono(1), mono(0, 2), mono()}},
	} {
		if got := order.Sort(c.o, c.l); !slices.Equal(got, c.want) {
			t.Errorf("Sort(%v, %v): %v, want %v", c.o, c.l, got, c.want)
		}
	}
}

// P5.7: the result is strictly decreasing, and has the monomials of the list, each once; the order of the list does not
// matter.
func TestSortOfRandomLists(t *testing.T) {
	r := source()
	for n, o := range orders(r, 500) {
		var l []api.Mono
		for range r.IntN(n%100 + 2) {
			a, b := pair(r)
			l = append(l, a, b)
		}
		got := order.Sort(o, l)
		for i := range got {
			if i > 0 && compare(o, got[i-1], got[i]) <= 0 {
				t.Errorf("Sort(%v, %v): %v", o, l, got)
			}
			if !slices.Contains(l, got[i]) {
				t.Errorf("Sort(%v, %v): %v is not of the list", o, l, got[i])
			}
		}
		for _, m := range l {
			if !slices.Contains(got, m) {
				t.Errorf("Sort(%v, %v): without %v", o, l, m)
			}
		}
		r.Shuffle(len(l), func(i, k int) { l[i], l[k] = l[k], l[i] })
		if again := order.Sort(o, l); !slices.Equal(again, got) {
			t.Errorf("Sort(%v, %v): %v and %v", o, l, got, again)
		}
	}
}

// P5.7: a long list, increasing, decreasing and mixed.
func TestSortOfLongLists(t *testing.T) {
	r := source()
	l := below(3, 0, 2, 3, 4, 6, 7)
	for _, o := range []api.Order{order.Lex(), order.Graded(), order.Reverse(), order.Eliminating(0b01001000)} {
		want := slices.Clone(l)
		slices.SortFunc(want, func(a, b api.Mono) int { return compare(o, b, a) })
		up := slices.Clone(want)
		slices.Reverse(up)
		mixed := slices.Concat(up, want, up)
		r.Shuffle(len(mixed), func(i, k int) { mixed[i], mixed[k] = mixed[k], mixed[i] })
		for _, list := range [][]api.Mono{want, up, mixed, l} {
			if got := order.Sort(o, list); !slices.Equal(got, want) {
				t.Errorf("%d monomials in the order %v: %d", len(list), o, len(got))
			}
		}
	}
}
