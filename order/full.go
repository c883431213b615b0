package order

import (
	"slices"

	"eliminant/api"
	"eliminant/rational"
)

// fractions is a row of weights while rows are eliminated.
type fractions [api.MaxVars]api.Rat

// Full returns the same order, as one that is total by its rows.
func Full(o api.Order) (api.Order, api.Errno) {
	if !Valid(o) {
		return nil, api.ErrOrder
	}
	out := slices.Clone(o)
	if rank(o) == api.MaxVars {
		return out, api.OK
	}
	if len(o)+api.MaxVars > api.MaxRows {
		return nil, api.ErrBig
	}
	for i := range api.MaxVars {
		out = append(out, power(i, 1))
	}
	return out, api.OK
}

// Permute returns the order in which the variables change places.
func Permute(o api.Order, perm [api.MaxVars]int) (api.Order, api.Errno) {
	if !Valid(o) {
		return nil, api.ErrOrder
	}
	if !permutes(perm) {
		return nil, api.ErrArg
	}
	out, e := Full(o)
	if e != api.OK {
		return nil, e
	}
	for k, row := range out {
		for i, w := range row {
			out[k][perm[i]] = w
		}
	}
	return out, api.OK
}

// permutes reports whether each index stands at one place.
func permutes(perm [api.MaxVars]int) bool {
	var found [api.MaxVars]bool
	for _, i := range perm {
		if i < 0 || i >= api.MaxVars || found[i] {
			return false
		}
		found[i] = true
	}
	return true
}

// rank returns the number of linearly independent rows.
func rank(o api.Order) int {
	var rows []*fractions
	for _, row := range o {
		rows = append(rows, ofWeights(row))
	}
	n := 0
	for column := range api.MaxVars {
		used := func(row *fractions) bool { return rational.Sign(row[column]) != 0 }
		k := slices.IndexFunc(rows, used)
		if k < 0 {
			continue
		}
		first := rows[k]
		rows = slices.Delete(rows, k, k+1)
		for _, row := range rows[k:] {
			if used(row) {
				row.reduce(column, first)
			}
		}
		n++
	}
	return n
}

// ofWeights returns the row with these weights.
func ofWeights(weights [api.MaxVars]int) *fractions {
	row := new(fractions)
	for i, w := range weights {
		row[i] = rational.Whole(int64(w))
	}
	return row
}

// reduce subtracts a multiple of another row, which is not 0 in the column, so that the row becomes 0 there.
func (row *fractions) reduce(column int, other *fractions) {
	factor, _ := rational.Div(row[column], other[column])
	for i, w := range other {
		row[i] = rational.Sub(row[i], rational.Mul(factor, w))
	}
}
