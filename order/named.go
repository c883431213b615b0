package order

import "eliminant/api"

// Lex returns the lexicographic order.
func Lex() api.Order { return nil }

// Graded returns the graded lexicographic order.
func Graded() api.Order { return api.Order{chosen(255)} }

// Reverse returns the graded reverse lexicographic order.
func Reverse() api.Order {
	out := Graded()
	for k := api.MaxVars - 1; k > 0; k-- {
		out = append(out, power(k, -1))
	}
	return out
}

// Eliminating returns an order that eliminates variables.
func Eliminating(mask uint8) api.Order {
	return append(api.Order{chosen(mask)}, Reverse()...)
}

// Eliminates reports whether an order eliminates variables.
func Eliminates(o api.Order, mask uint8) bool {
	for i := range api.MaxVars {
		for k := range api.MaxVars {
			// The powers of a variable increase, so the greatest one stands for all of them.
			if has(mask, i) && !has(mask, k) && Cmp(o, power(i, 1), power(k, api.MaxExp)) < 0 {
				return false
			}
		}
	}
	return true
}

// has reports whether the variable i is in a mask.
func has(mask uint8, i int) bool { return mask>>i&1 == 1 }

// chosen returns the row with the weight 1 for each variable in a mask.
func chosen(mask uint8) [api.MaxVars]int {
	var row [api.MaxVars]int
	for i := range row {
		row[i] = int(mask >> i & 1)
	}
	return row
}

// power returns n for the variable i and 0 for the others: a row, or the exponents of a power.
func power(i, n int) [api.MaxVars]int {
	var out [api.MaxVars]int
	out[i] = n
	return out
}
