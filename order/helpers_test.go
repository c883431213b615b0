package order_test

import (
	"math/big"
	"math/rand/v2"
	"slices"

	"eliminant/api"
)

// The tests compare with the definitions of the chapter: monomials by the lists of their sums, and ranks by elimination
// without fractions in math/big.

// row is a row of an order, or the exponents of a monomial.
type row = [api.MaxVars]int

// mono returns the monomial with these first exponents.
func mono(l ...int) api.Mono { return api.Mono(first(l...)) }

// first returns the row with these first weights.
func first(l ...int) row {
	var out row
	copy(out[:], l)
	return out
}

// each returns the row whose weights are all w.
func each(w int) row {
	var out row
	for i := range out {
		out[i] = w
	}
	return out
}

// single returns the row with the weight w for the variable i.
func single(i, w int) row {
	var out row
	out[i] = w
	return out
}

// units returns the eight rows with the weight 1 for one variable.
func units() api.Order {
	var out api.Order
	for i := range api.MaxVars {
		out = append(out, single(i, 1))
	}
	return out
}

// joined returns the rows of several orders.
func joined(l ...api.Order) api.Order { return slices.Concat(l...) }

// without returns the rows but for the one at k.
func without(o api.Order, k int) api.Order { return slices.Delete(slices.Clone(o), k, k+1) }

func source() *rand.Rand { return rand.New(rand.NewPCG(9, 10)) }

// admissible changes the signs of columns so that the first weights other than 0 are positive.
func admissible(o api.Order) api.Order {
	for i := range api.MaxVars {
		k := slices.IndexFunc(o, func(r row) bool { return r[i] != 0 })
		if k < 0 || o[k][i] > 0 {
			continue
		}
		for k := range o {
			o[k][i] = -o[k][i]
		}
	}
	return o
}

// random returns a valid order with n rows; weights are often 0, and rows often depend on those before them.
func random(r *rand.Rand, n int) api.Order {
	var out api.Order
	high := []int{1, 2, 9, 1000}[r.IntN(4)]
	zeros := r.IntN(4)
	for len(out) < n {
		var next row
		for i := range next {
			if r.IntN(4) >= zeros {
				next[i] = r.IntN(2*high+1) - high
			}
		}
		if len(out) > 1 && r.IntN(4) == 0 {
			next = sum(out[r.IntN(len(out))], out[r.IntN(len(out))])
		}
		if least, most := slices.Min(next[:]), slices.Max(next[:]); -1000 <= least && most <= 1000 {
			out = append(out, next)
		}
	}
	return admissible(out)
}

// orders returns the named orders, some at the edges, and n random ones.
func orders(r *rand.Rand, n int) []api.Order {
	graded, reverse := api.Order{each(1)}, reversed()
	out := []api.Order{
		nil, graded, reverse, units(), {each(0)}, {each(1000)}, {first(1, 3)}, {first(1000, 1)}, {first(1, 1000)}, {single(7, 1)}, {each(1), each(-1000)}, {first(1, 1), first(-1, 1)},
		joined(api.Order{first(1, 0, 1)}, reverse), joined(api.Order{first(0, 0, 0, 0, 1, 1, 1, 1)}, reverse), make(api.Order, 24), append(make(api.Order, 23), single(7, 1000)), joined(make(api.Order, 16), reverse),
	}
	for range n {
		out = append(out, random(r, r.IntN(25)))
	}
	return out
}

// reversed returns the rows that the chapter names for Reverse.
func reversed() api.Order {
	return api.Order{
		{1, 1, 1, 1, 1, 1, 1, 1},
		{0, 0, 0, 0, 0, 0, 0, -1},
		{0, 0, 0, 0, 0, 0, -1, 0},
		{0, 0, 0, 0, 0, -1, 0, 0},
		{0, 0, 0, 0, -1, 0, 0, 0},
		{0, 0, 0, -1, 0, 0, 0, 0},
		{0, 0, -1, 0, 0, 0, 0, 0},
		{0, -1, 0, 0, 0, 0, 0, 0},
	}
}

// exponents returns a monomial with exponents up to high; about every second one is 0.
func exponents(r *rand.Rand, high int) api.Mono {
	var m api.Mono
	for i := range m {
		if r.IntN(2) == 0 {
			m[i] = r.IntN(high + 1)
		}
	}
	return m
}

// pair returns two monomials, small ones and great ones, which may be equal or differ in few exponents.
func pair(r *rand.Rand) (api.Mono, api.Mono) {
	high := []int{1, 2, 5, 300, api.MaxExp}[r.IntN(5)]
	a, b := exponents(r, high), exponents(r, high)
	switch r.IntN(4) {
	case 0:
		b = a
	case 1:
		c := a
		c[r.IntN(api.MaxVars)] = b[0]
		c[r.IntN(api.MaxVars)] = b[1]
		b = c
	}
	return a, b
}

// below returns all monomials in the variables of the list whose exponents are at most high.
func below(high int, variables ...int) []api.Mono {
	out := []api.Mono{{}}
	for _, v := range variables {
		for _, m := range out {
			for m[v] < high {
				m[v]++
				out = append(out, m)
			}
		}
	}
	return out
}

// sums returns the sums for each row.
func sums(o api.Order, m api.Mono) []int {
	var out []int
	for _, r := range o {
		n := 0
		for i := range api.MaxVars {
			n += r[i] * m[i]
		}
		out = append(out, n)
	}
	return out
}

// compare compares by the definition: the sums one after the other, and then the exponents.
func compare(o api.Order, a, b api.Mono) int {
	return slices.Compare(append(sums(o, a), a[:]...), append(sums(o, b), b[:]...))
}

// moved returns the row with the entry i at perm[i].
func moved(r row, perm row) row {
	var out row
	for i := range r {
		out[perm[i]] = r[i]
	}
	return out
}

// sum adds entry by entry.
func sum(a, b row) row {
	for i := range a {
		a[i] += b[i]
	}
	return a
}

// rank counts the linearly independent rows: rows are multiplied crosswise, so that no fraction is needed.
func rank(o api.Order) int {
	var rows [][]*big.Int
	for _, r := range o {
		var next []*big.Int
		for _, w := range r {
			next = append(next, big.NewInt(int64(w)))
		}
		rows = append(rows, next)
	}
	n := 0
	for i := range api.MaxVars {
		for k := n; k < len(rows); k++ {
			if rows[k][i].Sign() != 0 {
				rows[n], rows[k] = rows[k], rows[n]
				for _, r := range rows[n+1:] {
					crosswise(r, rows[n], i)
				}
				n++
				break
			}
		}
	}
	return n
}

// crosswise makes the entry i of r 0.
func crosswise(r, by []*big.Int, i int) {
	x, y := new(big.Int).Set(by[i]), new(big.Int).Set(r[i])
	for k := range r {
		left, right := new(big.Int).Mul(x, r[k]), new(big.Int).Mul(y, by[k])
		r[k] = left.Sub(left, right)
	}
}
