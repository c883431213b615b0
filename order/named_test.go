package order_test

import (
	"slices"
	"testing"

	"eliminant/api"
	"eliminant/order"
)

// P5.1, E3: the rows.
func TestNamedOrders(t *testing.T) {
	if o := order.Lex(); len(o) != 0 {
		t.Errorf("Lex: %v", o)
	}
	if o := order.Graded(); !slices.Equal(o, api.Order{{1, 1, 1, 1, 1, 1, 1, 1}}) {
		t.Errorf("Graded: %v", o)
	}
	if o := order.Reverse(); !slices.Equal(o, reversed()) {
		t.Errorf("Reverse: %v", o)
	}
}

// P5.1, E4: the rows for each set of variables.
func TestEliminating(t *testing.T) {
	for mask := range 256 {
		var want row
		for i, rest := 0, mask; i < api.MaxVars; i, rest = i+1, rest/2 {
			want[i] = rest % 2
		}
		if o := order.Eliminating(uint8(mask)); !slices.Equal(o, joined(api.Order{want}, reversed())) || !order.Valid(o) {
			t.Errorf("Eliminating(%d): %v", mask, o)
		}
	}
}

// P5.3: Graded compares degrees, and then lexicographically; Reverse compares degrees, and then the last variable in which
// the exponents differ.
func TestGradedAndReverse(t *testing.T) {
	r := source()
	l := below(2, 1, 2, 5, 7)
	check := func(a, b api.Mono) {
		graded := slices.Compare(append([]int{degree(a)}, a[:]...), append([]int{degree(b)}, b[:]...))
		expect(t, order.Graded(), a, b, graded)
		reverse := slices.Compare([]int{degree(a)}, []int{degree(b)})
		for i := api.MaxVars - 1; i >= 0 && reverse == 0; i-- {
			reverse = slices.Compare(b[i:i+1], a[i:i+1])
		}
		expect(t, order.Reverse(), a, b, reverse)
		expect(t, order.Lex(), a, b, slices.Compare(a[:], b[:]))
	}
	for _, a := range l {
		for _, b := range l {
			check(a, b)
		}
	}
	for range 20000 {
		check(pair(r))
		// and monomials of the same degree
		a, _ := pair(r)
		b := a
		r.Shuffle(len(b), func(i, k int) { b[i], b[k] = b[k], b[i] })
		check(a, b)
	}
}

func degree(m api.Mono) int {
	n := 0
	for _, e := range slices.Backward(m[:]) {
		n += e
	}
	return n
}

// P5.1, E5, with the examples of the chapter.
func TestEliminates(t *testing.T) {
	for _, c := range []struct {
		o    api.Order
		mask uint8
		want bool
	}{
		{order.Reverse(), 1, false}, {order.Eliminating(2), 2, true}, {order.Eliminating(2), 3, false}, {order.Eliminating(10), 2, false}, {order.Eliminating(10), 8, false}, {order.Eliminating(10), 10, true},
		{nil, 0, true}, {nil, 255, true}, {order.Reverse(), 0, true}, {order.Reverse(), 255, true}, {order.Graded(), 127, false}, {order.Graded(), 128, false},
		{api.Order{first(0, 5)}, 2, true}, {api.Order{first(0, 5)}, 1, false}, {api.Order{first(0, 5)}, 3, true}, {api.Order{first(1, 1000)}, 2, false}, {api.Order{single(7, 1)}, 128, true},
		// Variable 0 is greater than the power 1000 of variable 1, but not than the next one.
		{api.Order{first(1000, 1)}, 1, false}, {api.Order{first(1000, 1)}, 3, true},
		// Each variable of a set is looked at, and each one outside of it.
		{api.Order{first(1, 1, 0, 1, 1, 1, 1, 1)}, 0b11111011, true}, {api.Order{first(1, 1, 0, 1, 1, 1, 1, 1)}, 0b01111011, false}, {api.Order{first(1, 1, 1, 1, 1, 1, 1, 0), first(0, 0, 0, 0, 0, 0, 0, 1)}, 0b01111111, true},
		{api.Order{first(0, 1), first(1)}, 2, true}, {api.Order{first(0, 1), first(1)}, 3, true}, {api.Order{first(0, 1), first(1)}, 1, false}, {api.Order{first(0, 1), first(1, -1)}, 2, true}, {api.Order{first(1, 1), first(1, -1)}, 1, false},
	} {
		if got := order.Eliminates(c.o, c.mask); got != c.want {
			t.Errorf("Eliminates(%v, %08b): %v", c.o, c.mask, got)
		}
	}
	for mask := range 256 {
		// Lexicographically, the first variables are greater than all powers of the others.
		if got, want := order.Eliminates(nil, uint8(mask)), mask&(mask+1) == 0; got != want {
			t.Errorf("Eliminates(Lex(), %08b): %v", mask, got)
		}
		if got, want := order.Eliminates(order.Reverse(), uint8(mask)), mask == 0 || mask == 255; got != want {
			t.Errorf("Eliminates(Reverse(), %08b): %v", mask, got)
		}
	}
}

// P5.1, E5: against the definition, with all powers of each variable.
func TestEliminatesByTheDefinition(t *testing.T) {
	r := source()
	for _, o := range append(orders(r, 10), order.Eliminating(0b01100100), order.Eliminating(0b10000001)) {
		// greater says whether the variable i is greater than all powers of the variable k.
		var greater [api.MaxVars][api.MaxVars]bool
		for i := range api.MaxVars {
			for k := range api.MaxVars {
				greater[i][k] = true
				for e := range api.MaxExp + 1 {
					if order.Cmp(o, single(i, 1), single(k, e)) <= 0 {
						greater[i][k] = false
						break
					}
				}
			}
		}
		for mask := range 256 {
			want := true
			for i := range api.MaxVars {
				for k := range api.MaxVars {
					if mask&(1<<i) != 0 && mask&(1<<k) == 0 {
						want = want && greater[i][k]
					}
				}
			}
			if got := order.Eliminates(o, uint8(mask)); got != want {
				t.Errorf("Eliminates(%v, %08b): %v", o, mask, got)
			}
		}
	}
}

// P5.4: Eliminating eliminates; and in an order that eliminates, each monomial with one of the variables is greater than
// each one without.
func TestElimination(t *testing.T) {
	r := source()
	for mask := range 256 {
		if !order.Eliminates(order.Eliminating(uint8(mask)), uint8(mask)) {
			t.Errorf("Eliminating(%08b) does not eliminate", mask)
		}
	}
	found := 0
	for n, o := range orders(r, 1000) {
		if n%4 == 0 {
			o = order.Eliminating(uint8(r.IntN(256)))
		}
		for mask := 1; mask < 255; mask++ {
			if !order.Eliminates(o, uint8(mask)) {
				continue
			}
			found++
			for range 20 {
				a, b := pair(r)
				for i := range b {
					b[i] *= 1 - mask>>i&1
				}
				some := slices.ContainsFunc([]int{0, 1, 2, 3, 4, 5, 6, 7}, func(i int) bool { return mask>>i&1 == 1 && a[i] > 0 })
				if some && order.Cmp(o, a, b) != 1 {
					t.Errorf("%v eliminates %08b, but Cmp(%v, %v) is %d", o, mask, a, b, order.Cmp(o, a, b))
				}
			}
		}
	}
	if found < 500 {
		t.Errorf("only %d orders and sets", found)
	}
}
