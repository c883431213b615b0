package order_test

import (
	"math"
	"slices"
	"testing"

	"eliminant/api"
	"eliminant/order"
)

// permutation returns a random one.
func permutation(shuffle func(int, func(i, k int))) row {
	perm := row{0, 1, 2, 3, 4, 5, 6, 7}
	shuffle(len(perm), func(i, k int) { perm[i], perm[k] = perm[k], perm[i] })
	return perm
}

// inverse returns the permutation back.
func inverse(perm row) row {
	var out row
	for i, k := range perm {
		out[k] = i
	}
	return out
}

// P5.1, E7: the weight for the variable i becomes that for perm[i].
func TestPermute(t *testing.T) {
	same := row{0, 1, 2, 3, 4, 5, 6, 7}
	around, swap := row{1, 2, 3, 4, 5, 6, 7, 0}, row{1, 0, 2, 3, 4, 5, 6, 7}
	for _, c := range []struct {
		o    api.Order
		perm row
		want api.Order
	}{
		{nil, same, units()}, {reversed(), same, reversed()}, {nil, swap, api.Order{single(1, 1), single(0, 1), single(2, 1), single(3, 1), single(4, 1), single(5, 1), single(6, 1), single(7, 1)}},
		{nil, around, api.Order{single(1, 1), single(2, 1), single(3, 1), single(4, 1), single(5, 1), single(6, 1), single(7, 1), single(0, 1)}},
		{append(units(), first(1, 2, 3, 4, 5, 6, 7, 8)), around, api.Order{single(1, 1), single(2, 1), single(3, 1), single(4, 1), single(5, 1), single(6, 1), single(7, 1), single(0, 1), first(8, 1, 2, 3, 4, 5, 6, 7)}},
		{api.Order{first(1, 2, 3)}, row{1, 2, 0, 3, 4, 5, 6, 7}, api.Order{first(3, 1, 2), single(1, 1), single(2, 1), single(0, 1), single(3, 1), single(4, 1), single(5, 1), single(6, 1), single(7, 1)}},
	} {
		if got, e := order.Permute(c.o, c.perm); !slices.Equal(got, c.want) || e != api.OK {
			t.Errorf("Permute(%v, %v): %v, %v", c.o, c.perm, got, e)
		}
	}
}

// P5.1, E7: against the definition, and back again.
func TestPermuteByTheDefinition(t *testing.T) {
	r := source()
	for _, o := range orders(r, 500) {
		perm := permutation(r.Shuffle)
		full, wrong := order.Full(o)
		var want api.Order
		for _, line := range full {
			want = append(want, moved(line, perm))
		}
		got, e := order.Permute(o, perm)
		if !slices.Equal(got, want) || e != wrong {
			t.Errorf("Permute(%v, %v): %v, %v", o, perm, got, e)
		}
		if e != api.OK {
			continue
		}
		if back, e := order.Permute(got, inverse(perm)); !order.Valid(got) || !slices.Equal(back, full) || e != api.OK {
			t.Errorf("Permute(%v, %v): %v, and back %v, %v", o, perm, got, back, e)
		}
	}
}

// P5.1, E7: the errors, in their order.
func TestPermuteErrors(t *testing.T) {
	same := row{0, 1, 2, 3, 4, 5, 6, 7}
	invalid := append(make(api.Order, 20), each(-1))
	for _, c := range []struct {
		o    api.Order
		perm row
		want api.Errno
	}{
		{invalid, row{}, api.ErrOrder}, {invalid, same, api.ErrOrder}, {make(api.Order, 25), row{}, api.ErrOrder}, {api.Order{each(1001)}, same, api.ErrOrder}, {api.Order{single(0, -1)}, row{9}, api.ErrOrder},
		{nil, row{}, api.ErrArg}, {make(api.Order, 17), row{}, api.ErrArg}, {make(api.Order, 24), row{8}, api.ErrArg}, {reversed(), each(7), api.ErrArg}, {nil, row{1, 2, 3, 4, 5, 6, 7, 8}, api.ErrArg}, {nil, row{-1, 0, 1, 2, 3, 4, 5, 6}, api.ErrArg},
		{make(api.Order, 17), same, api.ErrBig}, {make(api.Order, 24), same, api.ErrBig}, {joined(make(api.Order, 10), without(reversed(), 7)), same, api.ErrBig},
		{make(api.Order, 16), same, api.OK}, {joined(make(api.Order, 16), reversed()), same, api.OK},
	} {
		got, e := order.Permute(c.o, c.perm)
		if e != c.want || e != api.OK && len(got) > 0 {
			t.Errorf("Permute(%v, %v): %v, %v, want %v", c.o, c.perm, got, e, c.want)
		}
	}
	// Each place is looked at.
	for i := range api.MaxVars {
		for _, k := range []int{-1, 8, math.MinInt, math.MaxInt, 1 << 32, 256, (i + 1) % api.MaxVars} {
			perm := same
			perm[i] = k
			if got, e := order.Permute(nil, perm); len(got) > 0 || e != api.ErrArg {
				t.Errorf("Permute(nil, %v): %v, %v", perm, got, e)
			}
		}
	}
}

// P5.6: the permuted order compares permuted monomials as the order compares the monomials.
func TestPermutedComparesAlike(t *testing.T) {
	r := source()
	for _, o := range orders(r, 500) {
		perm := permutation(r.Shuffle)
		there, e := order.Permute(o, perm)
		if e != api.OK {
			continue
		}
		for range 40 {
			a, b := pair(r)
			x, y := moved(a, perm), moved(b, perm)
			if order.Cmp(there, x, y) != order.Cmp(o, a, b) {
				t.Errorf("Cmp(%v, %v, %v): %d, permuted by %v: %d", o, a, b, order.Cmp(o, a, b), perm, order.Cmp(there, x, y))
			}
		}
	}
}
