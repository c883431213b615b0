package order_test

import (
	"slices"
	"testing"

	"eliminant/api"
	"eliminant/order"
)

// expectFull checks Full against the rank.
func expectFull(t *testing.T, o api.Order) {
	t.Helper()
	want, wrong := o, api.OK
	if rank(o) < api.MaxVars {
		want = joined(o, units())
	}
	if len(want) > api.MaxRows {
		want, wrong = nil, api.ErrBig
	}
	if got, e := order.Full(o); !slices.Equal(got, want) || e != wrong {
		t.Errorf("Full(%v), of rank %d: %v, %v", o, rank(o), got, e)
	}
}

// P5.1, E6: the examples of the chapter, and the limit of the rows.
func TestFull(t *testing.T) {
	seven := without(reversed(), 7)
	for _, c := range []struct {
		o    api.Order
		rows int // 0 with ErrBig
	}{
		{order.Lex(), 8}, {order.Reverse(), 8}, {order.Graded(), 9}, {order.Eliminating(7), 9}, {order.Eliminating(0), 9}, {nil, 8}, {make(api.Order, 1), 9},
		{seven, 15}, {without(reversed(), 0), 0}, {joined(seven, seven), 22}, {joined(seven, seven, seven[:2]), 24}, {joined(seven, seven, seven[:3]), 0}, {joined(seven, seven, seven), 0},
		{make(api.Order, 16), 24}, {make(api.Order, 17), 0}, {make(api.Order, 24), 0}, {joined(make(api.Order, 16), reversed()), 24}, {joined(reversed(), make(api.Order, 16)), 24}, {joined(make(api.Order, 16), seven), 0},
		{joined(make(api.Order, 9), seven), 24}, {joined(make(api.Order, 10), seven), 0}, {joined(units(), units(), units()), 24},
	} {
		got, e := order.Full(c.o)
		if !order.Valid(c.o) {
			if len(got) != 0 || e != api.ErrOrder {
				t.Errorf("Full(%v): %v, %v", c.o, got, e)
			}
			continue
		}
		if len(got) != c.rows || (e == api.ErrBig) != (c.rows == 0) {
			t.Errorf("Full(%v): %d rows, %v, want %d", c.o, len(got), e, c.rows)
		}
		expectFull(t, c.o)
	}
}

// P5.1, E6: orders that are not valid, also where they have too many rows.
func TestFullOfWhatIsNoOrder(t *testing.T) {
	for _, o := range []api.Order{
		{single(0, -1)}, {each(1001)}, {each(1), each(-1001)}, make(api.Order, 25), append(make(api.Order, 20), each(-1)), append(units(), single(3, 1001)), without(reversed(), 0),
		append(joined(units(), units(), units()), each(1)), append(make(api.Order, 17), each(-1)),
	} {
		if got, e := order.Full(o); len(got) != 0 || e != api.ErrOrder {
			t.Errorf("Full(%v): %v, %v", o, got, e)
		}
	}
}

// P5.1, E6: rows of which each weight is needed to tell whether they are independent.
func TestFullOfRowsThatAreNearlyDependent(t *testing.T) {
	for i := range api.MaxVars {
		// Without the difference 1, the last row is the sum of two others, or half of one.
		high := sum(each(100), single(i, 800))
		last := sum(high, single((i+3)%api.MaxVars, 1))
		for _, o := range []api.Order{
			append(without(units(), i), high, high), append(without(units(), i), sum(high, single(i, -900))), append(without(units(), i), high), {high, last}, append(without(units(), i), last),
			append(api.Order{each(998)}, without(units(), i)...), append(api.Order{each(998), sum(each(499), single(i, 1))}, without(units(), i)[1:]...), append(api.Order{each(998), each(499)}, without(units(), i)[1:]...),
		} {
			expectFull(t, admissible(o))
		}
	}
	// Products of the weights of these rows do not fit into a word of the machine, and the determinant is small, or 0.
	a := api.Order{
		{997, 991, 983, 977, 971, 967, 953, 947}, {941, -937, 929, -919, 911, -907, 887, -883}, {881, 877, -863, -859, 857, 853, -839, -829}, {827, -823, -821, 811, 809, -797, -787, 773},
		{769, 761, 757, 751, -743, -739, -733, -727}, {719, -709, 701, -691, -683, 677, -673, 661}, {659, 653, -647, -643, -641, -631, 619, 617},
	}
	expectFull(t, a)
	expectFull(t, append(slices.Clone(a), each(7)))
	for i := range a {
		for k := range i {
			half := sum(a[i], a[k])
			for n := range half {
				half[n] /= 2
			}
			expectFull(t, append(slices.Clone(a), half))
			expectFull(t, append(slices.Clone(a), sum(half, single(k, 1))))
		}
	}
}

// P5.1, E6: against the rank that the test computes.
func TestFullOfRandomOrders(t *testing.T) {
	r := source()
	var ranks [api.MaxVars + 1]int
	for _, o := range orders(r, 1500) {
		expectFull(t, o)
		ranks[rank(o)]++
		if len(o) > 2 {
			o = slices.Clone(o)
			o[r.IntN(len(o))] = o[r.IntN(len(o))]
			expectFull(t, admissible(o))
		}
	}
	for n, count := range ranks {
		if count < 5 {
			t.Errorf("only %d orders of rank %d", count, n)
		}
	}
}

// P5.5: the full order compares as the order does, and its rows alone tell all monomials apart.
func TestFullComparesAlike(t *testing.T) {
	r := source()
	for _, o := range orders(r, 500) {
		full, e := order.Full(o)
		if e != api.OK {
			continue
		}
		if !order.Valid(full) || rank(full) != api.MaxVars {
			t.Errorf("Full(%v): %v", o, full)
		}
		for range 40 {
			a, b := pair(r)
			here, there := order.Cmp(o, a, b), order.Cmp(full, a, b)
			if rows := slices.Compare(sums(full, a), sums(full, b)); here != there || here != rows {
				t.Errorf("%v and %v: %d in %v, %d in %v, and %d by its rows", a, b, here, o, there, full, rows)
			}
		}
		if again, e := order.Full(full); !slices.Equal(again, full) || e != api.OK {
			t.Errorf("Full(%v): %v, %v", full, again, e)
		}
	}
}
