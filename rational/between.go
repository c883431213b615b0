package rational

import (
	"eliminant/api"
	"eliminant/integer"
)

// Between returns the simplest number of a closed interval.
func Between(a, b api.Rat) (api.Rat, api.Errno) {
	order := Cmp(a, b)
	switch {
	case order > 0:
		return api.Rat{}, api.ErrArg
	case Sign(a) <= 0 && Sign(b) >= 0:
		return Whole(0), api.OK
	case order == 0:
		return Neg(Neg(a)), api.OK // a copy: results share no memory with arguments
	case Sign(a) < 0:
		return Neg(simplest(Neg(b), Neg(a))), api.OK
	}
	return simplest(a, b), api.OK
}

// simplest returns the simplest number from a to b, for 0 < a < b. It is the least integer of the interval, if there
// is one; otherwise both ends lie between an integer n and n + 1, and it is n + 1/y with the simplest y that leads
// into the interval.
func simplest(a, b api.Rat) api.Rat {
	// The number y that is searched goes from p/q to r/s, and leads to (h y + h0) / (k y + k0). These are captured,
	// not passed on and back: there may be thousands of steps, and each of them should keep little memory.
	p, q, r, s := a.Num, a.Den, b.Num, b.Den
	h, h0, k, k0 := integer.Of(1), integer.Of(0), integer.Of(0), integer.Of(1)
	var search func()
	search = func() {
		n, low, _ := integer.DivMod(p, q)
		m, high, _ := integer.DivMod(r, s)
		whole := integer.Sign(low) == 0
		if !whole && integer.Cmp(n, m) < 0 {
			n, whole = integer.Add(n, integer.Of(1)), true
		}
		h, h0 = integer.Add(product(h, n), h0), h
		k, k0 = integer.Add(product(k, n), k0), k
		if !whole {
			p, q, r, s = s, high, q, low
			search()
		}
	}
	search()
	return api.Rat{Num: h, Den: k}
}
