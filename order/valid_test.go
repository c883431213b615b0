package order_test

import (
	"math"
	"slices"
	"testing"

	"eliminant/api"
	"eliminant/order"
)

// P5.1, E1: the bounds.
func TestValid(t *testing.T) {
	for _, c := range []struct {
		o    api.Order
		want bool
	}{
		{nil, true}, {api.Order{}, true}, {api.Order{{}}, true}, {api.Order{each(1)}, true}, {api.Order{each(-1)}, false}, {reversed(), true}, {units(), true},
		{api.Order{each(1000)}, true}, {api.Order{each(1), each(-1000)}, true}, {api.Order{each(1), each(-1001)}, false}, {api.Order{each(1), each(1001)}, false}, {api.Order{each(1001)}, false},
		{make(api.Order, 24), true}, {make(api.Order, 25), false}, {make(api.Order, 1000), false}, {joined(units(), units(), units()), true}, {joined(units(), units(), units(), units()[:1]), false},
		{append(make(api.Order, 23), each(1)), true}, {append(make(api.Order, 23), each(-1)), false}, {append(make(api.Order, 24), each(1)), false},
		{api.Order{first(0, 1), first(-1, -5)}, false}, {api.Order{first(1, 1), first(-1, -5)}, true}, {api.Order{first(1), first(-1, 1), first(1, -1, 1), first(0, 0, -1, 1)}, true},
		{api.Order{single(0, -1), single(0, 1)}, false}, {api.Order{single(0, 1), single(0, -1), single(0, -1)}, true},
	} {
		if got := order.Valid(c.o); got != c.want {
			t.Errorf("Valid(%v): %v", c.o, got)
		}
	}
}

// P5.1, E1: each weight of each row counts.
func TestValidLooksAtEachWeight(t *testing.T) {
	for i := range api.MaxVars {
		for k := range api.MaxRows {
			for w, want := range map[int]bool{
				1000: true, -1000: true, 1001: false, -1001: false, 0: true, math.MaxInt: false, math.MinInt: false, 1 << 32: false, -1 << 32: false, 1<<32 + 1: false, 65537: false,
			} {
				o := append(api.Order{each(1)}, make(api.Order, api.MaxRows-1)...)
				o[k][i] = w
				if k == 0 && w < 0 {
					want = false
				}
				if got := order.Valid(o); got != want {
					t.Errorf("the weight %d in row %d, column %d: %v", w, k, i, got)
				}
			}
		}
	}
}

// P5.1, E1: in each column, the first weight other than 0 decides; all columns with up to four small weights.
func TestValidByColumns(t *testing.T) {
	columns := [][]int{nil}
	for n := 0; n < len(columns); n++ {
		if c := columns[n]; len(c) < 4 {
			for _, w := range []int{-2, 0, 3} {
				columns = append(columns, append(slices.Clone(c), w))
			}
		}
	}
	for _, c := range columns {
		want := true
		if k := slices.IndexFunc(c, func(w int) bool { return w != 0 }); k >= 0 {
			want = c[k] > 0
		}
		for i := range api.MaxVars {
			o := make(api.Order, len(c))
			for k, w := range c {
				o[k] = each(1)
				o[k][i] = w
			}
			if got := order.Valid(o); got != want {
				t.Errorf("Valid with %v in the column %d: %v", c, i, got)
			}
		}
	}
}

// P5.1, E1: orders that are valid by their construction, and the same ones with the sign of one column changed.
func TestValidOfRandomOrders(t *testing.T) {
	r := source()
	for _, o := range orders(r, 3000) {
		if !order.Valid(o) {
			t.Errorf("Valid(%v): false", o)
		}
		i := r.IntN(api.MaxVars)
		zero := true
		for k := range o {
			zero = zero && o[k][i] == 0
			o[k][i] = -o[k][i]
		}
		if got := order.Valid(o); got != zero {
			t.Errorf("Valid(%v): %v", o, got)
		}
	}
}
