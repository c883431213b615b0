package rational

import (
	"strings"

	"eliminant/api"
	"eliminant/integer"
)

// Text returns the digits of a number.
func Text(a api.Rat) string {
	if isOne(a.Den) {
		return integer.Text(a.Num)
	}
	return integer.Text(a.Num) + "/" + integer.Text(a.Den)
}

// Parse reads what Text writes.
func Parse(s string) (api.Rat, api.Errno) {
	if len(s) > api.MaxText {
		return api.Rat{}, api.ErrBig
	}
	above, below, slash := strings.Cut(s, "/")
	if !slash {
		below = "1"
	}
	n, e := integer.Parse(above)
	if e != api.OK {
		return api.Rat{}, e
	}
	d, e := integer.Parse(below)
	if e != api.OK {
		return api.Rat{}, e
	}
	a := api.Rat{Num: n, Den: d}
	if !Valid(a) || slash && isOne(d) {
		return api.Rat{}, api.ErrForm
	}
	return a, api.OK
}
