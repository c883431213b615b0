package univariate_test

import (
	"testing"

	"eliminant/api"
	"eliminant/univariate"
)

// invalidNumbers returns values of the type of a number that are none.
func invalidNumbers() []api.Rat {
	one, two := api.Int{Mag: []uint32{1}}, api.Int{Mag: []uint32{2}}
	return []api.Rat{
		{}, {Num: one}, {Den: two}, {Num: two, Den: two}, {Num: one, Den: api.Int{Neg: true, Mag: []uint32{1}}},
		{Num: api.Int{Mag: []uint32{1, 0}}, Den: one}, {Num: one, Den: api.Int{Mag: []uint32{1, 0}}}, {Num: api.Int{Neg: true}, Den: one},
		{Num: api.Int{Mag: []uint32{0}}, Den: one}, {Num: one, Den: api.Int{Mag: []uint32{0}}}, {Num: api.Int{Mag: []uint32{0, 0}}, Den: api.Int{Neg: true, Mag: []uint32{0, 7, 0}}},
	}
}

// P7.1, G1: polynomials are valid whose coefficients are, and whose last one is not 0.
func TestValid(t *testing.T) {
	for _, a := range samples(t, source(), 40) {
		if !univariate.Valid(a) {
			t.Errorf("%s is valid", text(a))
		}
		if univariate.Valid(append(modelOf(a).poly(), number(0, 1))) {
			t.Errorf("%s with a further coefficient 0 is not valid", text(a))
		}
		for k := range a {
			for _, c := range invalidNumbers() {
				wrong := modelOf(a).poly()
				wrong[k] = c
				if univariate.Valid(wrong) {
					t.Errorf("%s with the coefficient %v of the power %d is not valid", text(a), c, k)
				}
			}
		}
	}
	if !univariate.Valid(nil) || !univariate.Valid(api.Upoly{}) {
		t.Error("0 is valid")
	}
	if !univariate.Valid(monomial(number(-1, 3), 70000)) || univariate.Valid(monomial(number(0, 1), 70000)) {
		t.Error("of a high degree")
	}
}

// P7.1, G4: Monic divides by the leading coefficient.
func TestMonic(t *testing.T) {
	for _, c := range []struct{ a, want string }{
		{"0", "0"}, {"7", "1"}, {"-2/3", "1"}, {"x - 5", "x - 5"}, {"2 x + 4", "x + 2"}, {"4 x + 2", "x + 1/2"}, {"- x^2 + x", "x^2 - x"}, {"2/3 x^3 - 5 x + 1/3", "x^3 - 15/2 x + 1/2"},
	} {
		a := read(t, c.a)
		expect(t, "Monic", univariate.Monic(a), read(t, c.want), a)
	}
	for _, a := range samples(t, source(), 40) {
		expect(t, "Monic", univariate.Monic(a), modelOf(a).monic().poly(), a)
	}
}
